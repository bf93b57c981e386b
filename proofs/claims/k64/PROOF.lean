import PyProof.Rows.All
import Wide.All
import OpenK.AllK
import Wide.FinOn
import Lean
import PyProof.EqAt
import PyProof.EqKinds
import PyProof.TupleCall
import KE.KRevIter
import OpenK.KOwn
import PyProof.Draws
import PyProof.EnumMake
import PyProof.StrBlockI
import PyProof.StrBlock2
import PyProof.DictValues
import PyProof.DictWalks
import PySem.Challenge.RW_decidebook_k64_covers_judged
open PySem.W (Frag nsIn mg_of findIn mg_none_of)
def ztc:=@List.length_map
def ztd:=@List.getElem?_eq_getElem
def zte:=@List.getElem?_map
def ztf:=@List.getElem?_eq_some_iff
def ztg:=@Bool.false_ne_true
def zth:=@List.mem_of_getElem?
def zti:=@PySem.Heap.get?_push_of_some
def ztj:=@PySem.Heap.lt_size
def ztk:=@List.length_append
def ztl:=@Nat.lt_of_lt_of_le
def ztm:=@List.size_toArray
def ztn:=@List.mem_cons_of_mem
def zto:=@List.length_cons
def ztp:=@List.getD_eq_getElem?_getD
def ztq:=@List.map_append
def ztr:=@Nat.ne_of_lt
def zts:=@Nat.le_refl
def ztt:=@List.mem_append_right
def ztu:=@List.length_range
def ztv:=@Nat.le_of_lt
def ztw:=@List.mem_cons_self
def ztx:=@PySem.Heap.get?_push_size
def zty:=@Nat.le_trans
def ztz:=@Nat.zero_le
def ztA:=@List.length_take
def ztB:=@List.map_cons
def ztC:=@List.lookup_cons
def ztD:=@List.not_mem_nil
def ztE:=@Bool.and_eq_true
def ztF:=@List.take_length
def ztG:=@List.all_eq_true
def ztH:=@Option.some.inj
def ztI:=@Nat.pow_le_pow_right
def ztJ:=@List.getElem?_append_left
def ztK:=@List.length_singleton
def ztL:=@List.length_filter_le
def ztM:=@List.getElem?_eq_none
def ztN:=@Nat.le_add_right
def ztO:=@List.map_map
def ztP:=@Int.toNat_natCast
def ztQ:=@List.filter_append
def ztR:=@Int.emod_lt_of_pos
def ztS:=@Bool.eq_iff_iff
def ztT:=@List.getElem_mem
def ztU:=@List.getElem_of_mem
def ztV:=@Int.emod_nonneg
set_option Elab.async false
set_option linter.all false
set_option maxRecDepth 100000
namespace L2
open PySem PySem.Spec PyProof.Rows
abbrev Key:=Sum Int Str
def zb6:Key->Value->Bool
 | .inl k,v=>Value.isInt k v
 | .inr x,v=>Value.isStrOf x v
def zoM (w:World):Key->Int
 | .inl k=>hashInt k
 | .inr x=>hashStr w x
theorem xY:∀{k:Key} {v:Value},zb6 k v=true->(∃i t,k=Sum.inl i/\v=Value.int i t)\/(∃x t,k=Sum.inr x/\v=Value.str x t)
 | .inl i,v,h=>by
  obtain⟨t,e⟩:=Value.isInt_shape (k:=i) (v:=v) h
  exact .inl ⟨i,t,rfl,e⟩
 | .inr x,v,h=>by
  obtain⟨t,e⟩:=Value.isStrOf_shape (x:=x) (v:=v) h
  exact .inr ⟨x,t,rfl,e⟩
theorem zhy (i:Int)(t:Tok):zb6 (.inl i) (.int i t)=true:=by simp[zb6,Value.isInt]
theorem zhz (x:Str)(t:Tok):zb6 (.inr x) (.str x t)=true:=by simp[zb6,Value.isStrOf]
theorem zlQ (a b:Int):decide ((Sum.inl a:Key)=Sum.inl b)=(a==b):=by
 by_cases e:a=b
 ·subst e;simp
 ·have h:¬(Sum.inl a:Key)=Sum.inl b:=fun q=>e (Sum.inl.inj q)
  rw[decide_eq_false h]
  exact(beq_eq_false_iff_ne.mpr e).symm
theorem zlR (a b:Str):decide ((Sum.inr a:Key)=Sum.inr b)=decide (a=b):=by
 by_cases e:a=b
 ·subst e;simp
 ·have h:¬(Sum.inr a:Key)=Sum.inr b:=fun q=>e (Sum.inr.inj q)
  rw[decide_eq_false h,decide_eq_false e]
theorem zlS (a:Int)(b:Str):decide ((Sum.inl a:Key)=Sum.inr b)=false:=decide_eq_false (fun q=>nomatch q)
theorem zlT (a:Str)(b:Int):decide ((Sum.inr a:Key)=Sum.inl b)=false:=decide_eq_false (fun q=>nomatch q)
def yx (prog:Program)(w:World):PySem.KeyKind prog w Key where
 is:=zb6
 hash:=zoM w
 inj:=fun v a b ha hb=>by
  rcases xY ha with ⟨i,t,rfl,rfl⟩ | ⟨x,t,rfl,rfl⟩
  ·rcases xY hb with ⟨j,u,rfl,e⟩ | ⟨y,u,rfl,e⟩
   ·injection e with e1 _;rw[e1]
   ·exact nomatch e
  ·rcases xY hb with ⟨j,u,rfl,e⟩ | ⟨y,u,rfl,e⟩
   ·exact nomatch e
   ·injection e with e1 _;rw[e1]
 byValue:=fun k v h=>by
  rcases xY h with ⟨i,t,rfl,rfl⟩ | ⟨x,t,rfl,rfl⟩<;>rfl
 pyHash:=fun hv h=>by
  rcases xY hv with ⟨i,t,rfl,rfl⟩ | ⟨x,t,rfl,rfl⟩
  ·exact wpAny_pyHash_int h
  ·exact wpAny_pyHash_str h
 eqBool:=fun hu hv h=>by
  rcases xY hu with ⟨i,t,rfl,rfl⟩ | ⟨x,t,rfl,rfl⟩
  ·rcases xY hv with ⟨j,u,rfl,rfl⟩ | ⟨y,u,rfl,rfl⟩
   ·rw[zlQ] at h;exact wpAny_eqBool_int h
   ·rw[zlS] at h;exact SeqAt.EqAt.int_str i t y u _ _ _ _ h
  ·rcases xY hv with ⟨j,u,rfl,rfl⟩ | ⟨y,u,rfl,rfl⟩
   ·rw[zlT] at h;exact SeqAt.EqAt.str_int x t j u _ _ _ _ h
   ·rw[zlR] at h;exact wpAny_eqBool_str h
 «strs»:=fun k x t v h=>by
  rcases xY h with ⟨i,u,rfl,e⟩ | ⟨y,u,rfl,e⟩
  ·exact nomatch e
  ·injection e with e1 _
   subst e1
   cases v<;>rfl
theorem zeb (prog:Program)(w:World)(i:Int)(t:Tok):(yx prog w).is (.inl i) (.int i t)=true:=zhy i t
theorem zec (prog:Program)(w:World)(x:Str)(t:Tok):(yx prog w).is (.inr x) (.str x t)=true:=zhz x t
inductive V where
 | non | bl (b:Bool) | int (i:Int) | str (x:Str) | byt (b:Array UInt8) | flt (b:UInt64) | ref (a:Addr) | ty (n:String)
 deriving DecidableEq
def RelV:V->Value->Prop
 | .non,u=>u=Value.none
 | .bl b,u=>u=Value.bool b
 | .int i,u=>∃t,u=Value.int i t
 | .str x,u=>∃t,u=Value.str x t
 | .byt b,u=>∃t,u=Value.bytes b t
 | .flt b,u=>∃t,u=Value.float b t
 | .ref a,u=>u=Value.ref a
 | .ty n,u=>u=Value.type n
abbrev Vals:List V->List Value->Prop:=Paired RelV
theorem Vals.length {xs:List V}{us:List Value}(r:Vals xs us):xs.length=us.length:=Paired.length r
theorem Vals.get:∀{xs:List V} {us:List Value} {i:Nat} {x:V},Vals xs us->xs[i]?=some x->∃u,us[i]?=some u/\RelV x u
 | _,_,_,_,.nil,e=>by simp at e
 | _,_,0,_,.cons r _,e=>by simp at e;subst e;exact⟨_,rfl,r⟩
 | _,_,i+1,x,.cons _ t,e=>by
  obtain⟨u,h1,h2⟩:=Vals.get (i:=i) (x:=x) t (by simpa using e)
  exact⟨u,by simpa using h1,h2⟩
theorem Vals.set {x:V}{u:Value}(r:RelV x u):∀{xs:List V} {us:List Value} (i:Nat),Vals xs us->Vals (xs.set i x) (us.set i u)
 | _,_,_,.nil=>.nil
 | _,_,0,.cons _ t=>.cons r t
 | _,_,i+1,.cons q t=>.cons q (Vals.set r i t)
theorem Vals.append:∀{xs ys:List V} {us ws:List Value},Vals xs us->Vals ys ws->Vals (xs++ys) (us++ws)
 | _,_,_,_,.nil,s=>s
 | _,_,_,_,.cons r t,s=>.cons r (Vals.append t s)
theorem Vals.take:∀{xs:List V} {us:List Value} (n:Nat),Vals xs us->Vals (xs.take n) (us.take n)
 | _,_,0,_=>.nil
 | _,_,_+1,.nil=>.nil
 | _,_,n+1,.cons r t=>.cons r (Vals.take n t)
theorem Vals.drop:∀{xs:List V} {us:List Value} (n:Nat),Vals xs us->Vals (xs.drop n) (us.drop n)
 | _,_,0,r=>r
 | _,_,_+1,.nil=>.nil
 | _,_,n+1,.cons _ t=>Vals.drop n t
def T9:Option V->Option Value->Prop
 | some v,some u=>RelV v u
 | none,none=>True
 | _,_=>False
def KV {κ:Type}:List (κ×V)->List (κ×Value)->Prop:=Paired fun(p:κ×V) (q:κ×Value)=>p.1=q.1/\RelV p.2 q.2
def kV:Key->V
 | .inl i=>.int i
 | .inr x=>.str x
inductive HO where
 | lst (xs:List V)
 | tup (xs:List V)
 | dK (kvs:List (Key×V)) | dT (kvs:List (List Key×V))
 | set (S:Int->Bool) (n:Nat)
 | ins (C dx:Addr) (fs:List (Str×V))
 | own (x:Addr)
 | xd (fs:List (Str×V))
 | met (f x:Addr)
 | rng (lo hi:Int)
 | frz (o:Obj) (u:HO)
 | tbl (ps:Array Value)
 | ext (φ:Heap->Prop)
abbrev Hp:=Addr->Option HO
def upd (H:Hp)(a:Addr)(o:HO):Hp:=fun b=>if b=a then some o else H b
theorem zf {H:Hp}{a:Addr}{o:HO}:upd H a o a=some o:=by unfold upd;rw[if_pos rfl]
theorem zG {H:Hp}{a b:Addr}{o:HO}(h:b≠a):upd H a o b=H b:=by unfold upd;rw[if_neg h]
theorem zgI {H:Hp}{a:Addr}{o u:HO}:upd (upd H a o) a u=upd H a u:=by
 funext b;unfold upd;split<;>rfl
theorem Sd {H:Hp}{a b:Addr}{o u:HO}(h:H a=some o)(h':H b=some u)(d:o≠u):a≠b:=by
 intro e;subst e;rw[h] at h';exact d (ztH h')
theorem zA {H:Hp}{a b:Addr}{o:HO}(h:H a=some o)(h':H b=none):a≠b:=by
 intro e;subst e;rw[h] at h';cases h'
section
variable (P:Program)(w:World)
def xZ (H:Hp)(h:Heap)(a:Addr):HO->Prop
 | .lst xs=>xs.length<=sizeLine/\∃(its:List Value) (n:Nat),Vals xs its/\h.get? a=some { cls:=.type "list", data:=.seq its.toArray n }
 | .tup xs=>xs.length<=sizeLine/\∃its:List Value,Vals xs its/\IsTup h a its.toArray
 | .dK kvs=>kvs.length<=sizeLine/\(a==sysModules)=false/\∃vs,KV kvs vs/\h.DictOf (yx P w) a vs
 | .dT kvs=>kvs.length<=sizeLine/\(a==sysModules)=false/\∃xs:List (List Key×Addr×Value),
   Paired (fun(p:List Key×V) (q:List Key×Addr×Value)=>p.1=q.1/\H q.2.1=some (.tup (p.1.map kV))/\RelV p.2 q.2.2) kvs xs /\
   ∃o es ep,h.get? a=some o/\o.ExactDict/\o.data=.dict es ep/\es.toList=xs.map (entryOfKey (tupleKind (yx P w)))/\(xs.map (·.1)).Nodup
 | .set S n=>h.SetOf (intKind P w) a S n
 | .ins C dx fs=>H dx=some (.own a)/\fs.length<=1000/\dx≠a/\h.get? a=some (PySem.W.instObj C dx) /\
   ∃mA,h.Ns1 dx mA/\(∀f,T9 (fs.lookup f) (mA f))/\PySem.Within mA (fs.map (·.1))
 | .own _=>∃o,h.get? a=some o
 | .xd fs=>∃mA,h.Ns1 a mA/\∀f,T9 (fs.lookup f) (mA f)
 | .rng lo hi=>∃t u v,h.get? a=some { cls:=.type "range", data:=.fields #[.int lo t,.int hi u,.int 1 v] }
 | .frz o u=>h.get? a=some o/\xZ H h a u
 | .tbl ps=>h.get? a=some { cls:=.none,data:=.fields ps }
 | .met f x=>h.get? a=some (PySem.W.methodObj (.ref f) (.ref x))
 | .ext φ=>φ h/\(∃o,h.get? a=some o)/\∀h1 h2:Heap,φ h1->(∀o,h1.get? a=some o->h2.get? a=some o)->φ h2
def QT (H:Hp)(h:Heap):Prop:=∀a o,H a=some o->xZ P w H h a o
end
section
variable {P:Program}{w:World}{H H':Hp}{h h':Heap}{a:Addr}{o:HO}
theorem xZ.lt (x:xZ P w H h a o):a<h.objs.size:=by
 cases o with
 | lst xs=>obtain⟨_,_,_,_,e⟩:=x;exact ztj e
 | tup xs=>obtain⟨_,_,_,p⟩:=x;exact p.lt
 | dK kvs=>obtain⟨_,_,_,_,o,_,_,e,_⟩:=x;exact ztj e
 | dT kvs=>obtain⟨_,_,_,_,o,_,_,e,_⟩:=x;exact ztj e
 | set S n=>obtain⟨o,_,_,_,e,_⟩:=x;exact ztj e
 | ins C dx fs=>obtain⟨_,_,_,e,_⟩:=x;exact ztj e
 | own y=>obtain⟨_,e⟩:=x;exact ztj e
 | xd fs=>obtain⟨_,⟨_,_,_,e,_⟩,_⟩:=x;exact ztj e
 | rng lo hi=>obtain⟨_,_,_,e⟩:=x;exact ztj e
 | frz ob u=>obtain⟨e,_⟩:=x;exact ztj e
 | tbl ps=>exact ztj (show h.get? a=some _ from x)
 | met f y=>exact ztj (show h.get? a=some _ from x)
 | ext φ=>obtain⟨_,⟨_,e⟩,_⟩:=x;exact ztj e
theorem Paired.zlV {α β:Type}{F G:α->β->Prop}:∀{l₁:List α} {l₂:List β},Paired F l₁ l₂->(∀a b,F a b->G a b)->Paired G l₁ l₂
 | _,_,.nil,_=>.nil
 | _,_,.cons r t,f=>.cons (f _ _ r) (Paired.zlV t f)
theorem xZ.stay (x:xZ P w H h a o)(k:∀b u,(b=a\/H b=some (.own a))->h.get? b=some u->h'.get? b=some u)
  (ho:∀b,H b=some (.own a)->H' b=some (.own a))(ht:∀b xs,H b=some (.tup xs)->H' b=some (.tup xs)):xZ P w H' h' a o:=by
 induction o with
 | lst xs=>obtain⟨z,its,n,r,e⟩:=x;exact⟨z,its,n,r,k _ _ (.inl rfl) e⟩
 | tup xs=>obtain⟨z,its,r,ob,e,c⟩:=x;exact⟨z,its,r,ob,k _ _ (.inl rfl) e,c⟩
 | dK kvs=>obtain⟨z,y,vs,r,ob,es,ep,e,c⟩:=x;exact⟨z,y,vs,r,ob,es,ep,k _ _ (.inl rfl) e,c⟩
 | dT kvs =>
  obtain⟨z,y,xs,r,ob,es,ep,e,c⟩:=x
  exact⟨z,y,xs,Paired.zlV r fun p q z=>⟨z.1,ht _ _ z.2.1,z.2.2⟩,ob,es,ep,k _ _ (.inl rfl) e,c⟩
 | set S n=>obtain⟨ob,es,ep,t,e,c⟩:=x;exact⟨ob,es,ep,t,k _ _ (.inl rfl) e,c⟩
 | ins C dx fs =>
  obtain⟨d,z,ne,e,mA,⟨od,es,ep,e2,c⟩,r⟩:=x
  exact⟨ho _ d,z,ne,k _ _ (.inl rfl) e,mA,⟨od,es,ep,k _ _ (.inr d) e2,c⟩,r⟩
 | own y=>obtain⟨ob,e⟩:=x;exact⟨ob,k _ _ (.inl rfl) e⟩
 | xd fs=>obtain⟨mA,⟨od,es,ep,e,c⟩,r⟩:=x;exact⟨mA,⟨od,es,ep,k _ _ (.inl rfl) e,c⟩,r⟩
 | rng lo hi=>obtain⟨t,u,v,e⟩:=x;exact⟨t,u,v,k _ _ (.inl rfl) e⟩
 | frz ob u ih=>obtain⟨e,q⟩:=x;exact⟨k _ _ (.inl rfl) e,ih q⟩
 | tbl ps =>
  have e:h.get? a=some { cls:=.none,data:=.fields ps }:=x
  show h'.get? a=some { cls:=.none,data:=.fields ps }
  exact k a _ (.inl rfl) e
 | met f y =>
  have e:h.get? a=some (PySem.W.methodObj (.ref f) (.ref y)):=x
  show h'.get? a=some (PySem.W.methodObj (.ref f) (.ref y))
  exact k a _ (.inl rfl) e
 | ext φ=>obtain⟨p,⟨o,e⟩,st⟩:=x;exact⟨st _ _ p fun o q=>k _ _ (.inl rfl) q,⟨o,k _ _ (.inl rfl) e⟩,st⟩
theorem QT.lt (x:QT P w H h)(e:H a=some o):a<h.objs.size:=(x a o e).lt
theorem QT.fresh (x:QT P w H h)(e:h.objs.size<=a):H a=none:=by
 cases q:H a with
 | none=>rfl
 | some u=>exact absurd (ztl (x.lt q) e) (Nat.lt_irrefl _)
theorem QT.kept (x:QT P w H h)(k:∀b u,h.get? b=some u->h'.get? b=some u):QT P w H h':=fun a o e =>
 (x a o e).stay (fun b u _ q=>k b u q) (fun _ q=>q) fun _ _ q=>q
theorem QT.laid (x:QT P w H h)(k:∀b u,h.get? b=some u->h'.get? b=some u)(hp:h.objs.size<=a)(new:xZ P w (upd H a o) h' a o):QT P w (upd H a o) h':=fun b u e=>by
 have hn:=x.fresh hp
 by_cases hb:b=a
 ·subst hb;rw[zf] at e;cases e;exact new
 ·rw[zG hb] at e
  exact(x b u e).stay (fun c v _ q=>k c v q) (fun c q=>by rw[zG (zA q hn)];exact q) fun c xs q=>by rw[zG (zA q hn)];exact q
end
def Rd (H:Hp)(a:Addr)(u:HO):Prop:=H a=some u\/∃o,H a=some (.frz o u)
theorem Rd.ok {P:Program}{w:World}{H:Hp}{h:Heap}{a:Addr}{u:HO}(r:Rd H a u)(x:QT P w H h):xZ P w H h a u:=by
 rcases r with r | ⟨o,r⟩
 ·exact x a u r
 ·obtain⟨_,q⟩:=x a _ r
  exact q
def Mut:Option HO->Prop
 | some (.lst _)=>True
 | some (.dK _)=>True
 | some (.dT _)=>True
 | some (.set _ _)=>True
 | some (.ins _ _ _)=>True
 | some (.ext _)=>True
 | _=>False
section
variable {P:Program}{w:World}{H:Hp}{h h':Heap}{x e:Addr}{o':HO}
theorem QT.write (ok:QT P w H h)(mu:Mut (H x))(he:e=x\/H e=some (.own x))(k:∀b u,b≠e->h.get? b=some u->h'.get? b=some u)(heo:∃u,h'.get? e=some u)
  (new:xZ P w (upd H x o') h' x o'):QT P w (upd H x o') h':=fun b u q=>by
 have zm2:∀c y,H c=some (.own y)->c≠x:=fun c y r z=>by subst z;rw[r] at mu;exact mu
 have zoN:∀c xs,H c=some (.tup xs)->c≠x:=fun c xs r z=>by subst z;rw[r] at mu;exact mu
 by_cases hb:b=x
 ·subst hb;rw[zf] at q;cases q;exact new
 ·rw[zG hb] at q
  by_cases hbe:b=e
  ·have q':H b=some (.own x):=by
    rcases he with z | z
    ·exact absurd (hbe.trans z) hb
    ·rw[hbe];exact z
   rw[q] at q';cases q'
   obtain⟨v,hv⟩:=heo
   exact⟨v,by rw[hbe];exact hv⟩
  ·refine(ok b u q).stay (fun c v hc r=>k c v ?_ r) (fun c r=>by rw[zG (zm2 c b r)];exact r) fun c xs r=>by rw[zG (zoN c xs r)];exact r
   rcases hc with rfl | hc
   ·exact hbe
   ·rintro rfl
    rcases he with z | z
    ·exact zm2 c b hc z
    ·rw[hc] at z;cases z;exact hb rfl
end
structure Un (fs ex:List Addr)(H H':Hp)(h h':Heap):Prop where
 keep:∀b o,h.get? b=some o->H b=none->b∉fs->b∉ex->h'.get? b=some o
 slot:∀b o,h.get? b=some o->H b=none->b∈fs->b∉ex->∃sl,h'.get? b=some { o with slots:=sl }
 free:∀b o,h.get? b=some o->H b=none->b∉ex->H' b=none
 there:∀b o,h.get? b=some o->b∉ex->∃o',h'.get? b=some o'
 tups:∀b xs,H b=some (.tup xs)->H' b=some (.tup xs)
 zbB:∀b o u,H b=some (.frz o u)->H' b=some (.frz o u)
 zcL:∀b ps,H b=some (.tbl ps)->∃more,H' b=some (.tbl (ps++more))
section
variable {fs fs' ex ex':List Addr}{H H1 H2:Hp}{h h1 h2 h':Heap}{a x e:Addr}{o:HO}
theorem Un.any (u:Un fs ex H H1 h h1){b:Addr}{ob:Obj}(q:h.get? b=some ob)(n:H b=none)(hx:b∉ex):∃sl,h1.get? b=some { ob with slots:=sl }:=by
 by_cases hb:b∈fs
 ·exact u.slot b ob q n hb hx
 ·exact⟨ob.slots,u.keep b ob q n hb hx⟩
theorem Un.kept (k:∀b u,h.get? b=some u->h'.get? b=some u):Un fs ex H H h h' :=
 ⟨fun b ob q _ _ _=>k b ob q,fun b ob q _ _ _=>⟨ob.slots,k b ob q⟩,fun _ _ _ n _=>n,fun b ob q _=>⟨ob,k b ob q⟩,fun _ _ q=>q,fun _ _ _ q=>q,fun _ ps q=>⟨#[],by rw[q];simp⟩⟩
theorem Un.refl:Un fs ex H H h h:=Un.kept fun _ _ q=>q
theorem Un.laid (k:∀b u,h.get? b=some u->h'.get? b=some u)(hp:h.objs.size<=a)(hn:H a=none):Un fs ex H (upd H a o) h h' where
 keep:=fun b u q _ _ _=>k b u q
 slot:=fun b u q _ _ _=>⟨u.slots,k b u q⟩
 free:=fun b u q n _=>by rw[zG (ztr (ztl (ztj q) hp))];exact n
 there:=fun b u q _=>⟨u,k b u q⟩
 tups:=fun b xs q=>by rw[zG (zA q hn)];exact q
 zbB:=fun b u xs q=>by rw[zG (zA q hn)];exact q
 zcL:=fun b ps q=>⟨#[],by rw[zG (zA q hn),q];simp⟩
theorem Un.write (mu:Mut (H x))(he:e=x\/H e=some (.own x))(k:∀b u,b≠e->h.get? b=some u->h'.get? b=some u)(heo:∃u,h'.get? e=some u):Un fs ex H (upd H x o) h h':=by
 have hx:∀b,H b=none->b≠x:=fun b n z=>by subst z;rw[n] at mu;exact mu
 have hb:∀b,H b=none->b≠e:=fun b n z=>by
  subst z
  rcases he with r | r
  ·exact hx b n r
  ·rw[n] at r;cases r
 have hm:∀b u,H b=some u->¬Mut (some u)->b≠x:=fun b u q nm z=>by subst z;rw[q] at mu;exact nm mu
 refine⟨fun b u q n _ _=>k b u (hb b n) q,fun b u q n _ _=>⟨u.slots,k b u (hb b n) q⟩,fun b u q n _=>by rw[zG (hx b n)];exact n,fun b u q _=>?_,
  fun b xs q=>by rw[zG (hm b _ q fun z=>z)];exact q,fun b u xs q=>by rw[zG (hm b _ q fun z=>z)];exact q,fun b ps q=>⟨#[],by rw[zG (hm b _ q fun z=>z),q];simp⟩⟩
 by_cases hbe:b=e
 ·subst hbe;exact heo
 ·exact⟨u,k b u hbe q⟩
end
def trk (h:Heap)(H:Hp):List Addr:=(List.range h.objs.size).filter fun a=>(H a).isSome
def zcM (h:Heap)(H:Hp):Heap:=PySem.W.hideAll h (trk h H)
theorem zhA (h:Heap)(H:Hp):(zcM h H).objs.size=h.objs.size:=PySem.W.hideAll_size _ _
theorem ziq {h:Heap}{H:Hp}{b:Addr}{o:Obj}(e:h.get? b=some o)(n:H b=none):(zcM h H).get? b=some o :=
 PySem.W.hideAll_get _ e fun hm=>by
  have q:(H b).isSome=true:=(List.mem_filter.mp hm).2
  rw[n] at q;simp at q
theorem zj4 {h:Heap}{H:Hp}{b:Addr}{o:Obj}(e:(zcM h H).get? b=some o):h.get? b=some o/\H b=none:=by
 have e':h.get? b=some o:=PySem.W.of_hideAll (trk h H) e
 refine⟨e',?_⟩
 cases q:H b with
 | none=>rfl
 | some x =>
  have hm:b∈trk h H:=List.mem_filter.mpr ⟨List.mem_range.mpr (ztj e'),by simp[q]⟩
  have z:(zcM h H).get? b=none:=PySem.W.hideAll_none (trk h H) hm
  rw[z] at e;cases e
structure Mod (K:Frag)(mg:Str->Option Value)(base:Heap):Prop where
 kin:K.In base
 glob:base.Ns mainGlobals mg
 blt:∃mb,base.Ns builtinsNs mb/\∀x:Str,x ≠ "__name__" -> mb x=bootBuiltins x
 nolimit:base.NoLimit
structure Cx where
 prog:Program
 w:World
 K:Frag
 mg:Str->Option Value
 base:Heap
 A:Around
 N:List Str
 s₀:Shared
 H₀:Hp
 env:Env
 outer:List Env
 stack:List Env
 ex:List Addr
 fn:Str->Bool
 calm:Bool
 pn:List (Addr×Obj)
 xe:Value->Shared->Prop
def frs (l:List Env):List Addr:=l.filterMap (·.frame)
abbrev Cx.fs (X:Cx):List Addr:=frs X.outer
def Vis (sc:Scope)(x:Str):Prop:=sc.names.lookup x=some .local\/sc.names.lookup x=some .cell\/sc.names.lookup x=some .free
def Loc (sc:Scope)(x:Str):Prop:=sc.names.lookup x=some .local\/sc.names.lookup x=some .cell
def Look (env:Env)(h:Heap)(m:Str->Option Value)(x:Str)(u:Value):Prop :=
 (env.kindOf x=some .local/\m x=some u)\/((env.kindOf x=some .cell\/env.kindOf x=some .free)/\∃c,env.cells.lookup x=some c/\h.IsCell c (some u))
structure Cx.Ok (X:Cx):Prop where
 mod:Mod X.K X.mg X.base
 kind:X.env.scope.kind=.function
 glob:X.env.globals=mainGlobals
 blt:X.env.builtins=builtinsNs
 above:X.s₀.heap.objs.size<=X.env.locals
 inj:∀x y c,X.env.cells.lookup x=some c->X.env.cells.lookup y=some c->x=y
 has:∀x,(X.env.kindOf x=some .cell\/X.env.kindOf x=some .free)->∃c,X.env.cells.lookup x=some c
 cab:∀x c,X.fn x=true->X.env.cells.lookup x=some c->X.s₀.heap.objs.size<=c
 hd:X.calm=true->X.A.handled=none
 frames:X.A.frames=some X.stack
 stk:X.stack=X.outer\/(X.stack=X.env::X.outer/\X.env.frame=some X.env.locals)
 exf:∀b∈X.ex,b≠X.env.locals/\∀x c,X.env.cells.lookup x=some c->c≠b
 bs:∀b o,X.base.get? b=some o->X.s₀.heap.get? b=some o/\X.H₀ b=none
 bsz:X.base.objs.size<=X.s₀.heap.objs.size
 zhB:∀b o,X.base.get? b=some o->b∉X.ex
 zhC:∀b∈X.ex,b∉X.fs
 LK:X.s₀.heap.FunFrames X.base X.outer
 frf:∀b∈X.fs,X.H₀ b=none
structure Inv (X:Cx)(pins:List (Addr×Obj))(σ:List (Option V))(H:Hp)(s:Shared):Prop where
 ok:X.Ok
 os:s.os=X.s₀.os
 bare:AllBare s.gens
 base:Un X.fs X.ex X.H₀ H X.s₀.heap s.heap
 loc:∃m,s.heap.Ns X.env.locals m/\∀(i:Nat) (x:Str) (v:V),X.N[i]?=some x->σ[i]?=some (some v)->Vis X.env.scope x->∃u,RelV v u/\Look X.env s.heap m x u
 cell:∀x c,X.env.cells.lookup x=some c->∃v,s.heap.IsCell c v
 free:H X.env.locals=none
 Sg:∀x c,X.env.cells.lookup x=some c->H c=none
 pin:∀p∈X.pn++pins,s.heap.get? p.1=some p.2/\H p.1=none/\p.1≠X.env.locals/\p.1∉X.fs/\∀v,p.2.data≠.cell v
 hok:QT X.prog X.w H s.heap
 len:σ.length=X.N.length
section
variable {X:Cx}{pins:List (Addr×Obj)}{σ:List (Option V)}{H H':Hp}{s:Shared}{h':Heap}
theorem Cx.Ok.zoO (ok:X.Ok){b:Addr}{o:Obj}(e:X.base.get? b=some o):b∉X.fs:=fun hb=>by
 have:=(ok.LK.mem hb).1
 rw[e] at this;cases this
theorem Inv.bs (I:Inv X pins σ H s):∀b o,X.base.get? b=some o->s.heap.get? b=some o/\H b=none:=fun b o e =>
 ⟨I.base.keep b o (I.ok.bs b o e).1 (I.ok.bs b o e).2 (I.ok.zoO e) (I.ok.zhB b o e),I.base.free b o (I.ok.bs b o e).1 (I.ok.bs b o e).2 (I.ok.zhB b o e)⟩
theorem Inv.bk (I:Inv X pins σ H s):∀b o,X.base.get? b=some o->s.heap.get? b=some o:=fun b o e=>(I.bs b o e).1
theorem Inv.mod (I:Inv X pins σ H s):Mod X.K X.mg X.base:=I.ok.mod
theorem Inv.LQ (I:Inv X pins σ H s):X.K.In s.heap:=I.ok.mod.kin.keeps I.bk
theorem Inv.lt (I:Inv X pins σ H s):X.env.locals<s.heap.objs.size:=let ⟨_,hn,_⟩:=I.loc;hn.lt
theorem Inv.sz (I:Inv X pins σ H s):X.s₀.heap.objs.size<=s.heap.objs.size:=zty I.ok.above (ztv I.lt)
theorem Inv.zlW (I:Inv X pins σ H s){a:Addr}(h:s.heap.objs.size<=a):a∉X.fs:=fun hb=>by
 obtain⟨_,o,ho,_⟩:=I.ok.LK.mem hb
 exact absurd (ztl (ztj ho) (zty I.sz h)) (Nat.lt_irrefl _)
theorem Inv.cne (I:Inv X pins σ H s):∀x c,X.env.cells.lookup x=some c->c≠X.env.locals:=fun x c e z=>by
 obtain⟨v,o,ho,hd⟩:=I.cell x c e
 obtain⟨m,⟨o',es,ep,ho',hd',_⟩,_⟩:=I.loc
 rw[z,ho'] at ho;cases ho;rw[hd'] at hd;cases hd
theorem Inv.LK (I:Inv X pins σ H s):s.heap.FunFrames X.base X.outer:=by
 have all:∀(l:List Env),(∀b∈frs l,b∈X.fs)->X.s₀.heap.FunFrames X.base l->s.heap.FunFrames X.base l:=by
  intro l
  induction l with
  | nil=>intro _ _;trivial
  | cons env r ih =>
   intro hs hl
   obtain⟨hk,⟨L,o,hf,hn,ho,hd⟩,hr⟩:=hl
   have hL:L∈X.fs:=hs L (by unfold frs;rw[List.filterMap_cons,hf];exact ztw)
   obtain⟨sl,e⟩:=I.base.slot L o ho (I.ok.frf L hL) hL fun z=>I.ok.zhC L z hL
   exact⟨hk,⟨L,_,hf,hn,e,hd⟩,ih (fun b hb=>hs b (by unfold frs;rw[List.filterMap_cons,hf];exact ztn _ hb)) hr⟩
 exact all X.outer (fun _ hb=>hb) I.ok.LK
theorem Inv.stack (I:Inv X pins σ H s):s.heap.FunFrames X.base X.stack:=by
 rcases I.ok.stk with e | ⟨e,hf⟩
 ·rw[e];exact I.LK
 ·rw[e]
  obtain⟨m,hn,_⟩:=I.loc
  refine .cons (by rw[I.ok.kind];decide) hf hn ?_ I.LK
  exact Heap.get?_none_of_le (zty I.ok.bsz I.ok.above)
theorem Inv.zcN (I:Inv X pins σ H s):∀b∈frs X.stack,b∈X.env.locals::X.fs:=fun b hb=>by
 rcases I.ok.stk with e | ⟨e,hf⟩
 ·rw[e] at hb;exact ztn _ hb
 ·rw[e] at hb
  unfold frs at hb
  rw[List.filterMap_cons,hf] at hb
  exact hb
theorem Inv.zgJ (I:Inv X pins σ H s):∀b∈frs X.stack,H b=none:=fun b hb=>by
 rcases List.mem_cons.mp (I.zcN b hb) with e | hb
 ·rw[e];exact I.free
 ·obtain⟨_,o,ho,_⟩:=I.ok.LK.mem hb
  exact I.base.free b o ho (I.ok.frf b hb) fun z=>I.ok.zhC b z hb
theorem Inv.step {g':Array GenState}{t':Nat}{d':Drawn}{ch:List Addr}(I:Inv X pins σ H s)
  (hch:∀b∈ch,(b∈X.ex\/X.s₀.heap.objs.size<=b)/\b≠X.env.locals/\(∀x c,X.env.cells.lookup x=some c->c≠b)/\∀p∈X.pn++pins,p.1≠b)
  (keep:∀b o,b≠X.env.locals->b∉X.fs->b∉ch->s.heap.get? b=some o->H b=none->h'.get? b=some o)
  (slot:∀b o,b≠X.env.locals->b∈X.fs->b∉ch->s.heap.get? b=some o->H b=none->∃sl,h'.get? b=some { o with slots:=sl })(free:∀b o,b∉ch->s.heap.get? b=some o->H b=none->H' b=none)
  (there:∀b o,b∉ch->s.heap.get? b=some o->∃o',h'.get? b=some o')
  (tups:∀b xs,H b=some (.tup xs)->H' b=some (.tup xs))(zbB:∀b o u,H b=some (.frz o u)->H' b=some (.frz o u))(zcL:∀b ps,H b=some (.tbl ps)->∃more,H' b=some (.tbl (ps++more)))
  (ns:∀m,s.heap.Ns X.env.locals m->h'.Ns X.env.locals m)(hok:QT X.prog X.w H' h')(hg:AllBare g') :
  Inv X pins σ H' { s with heap:=h',gens:=g',drawn:=d',toks:=t' }:=by
 have neL:∀b o,X.s₀.heap.get? b=some o->b≠X.env.locals:=fun b o e=>ztr (ztl (ztj e) I.ok.above)
 have neC:∀b o,X.s₀.heap.get? b=some o->b∉X.ex->b∉ch:=fun b o e hx hb=>by
  rcases (hch b hb).1 with z | z
  ·exact hx z
  ·exact absurd (ztl (ztj e) z) (Nat.lt_irrefl _)
 have cellK:∀x c,X.env.cells.lookup x=some c->∀v,s.heap.IsCell c v->h'.IsCell c v:=fun x c e v ⟨o,ho,hd⟩=>by
  have nch:c∉ch:=fun z=>(hch c z).2.2.1 x c e rfl
  by_cases hc:c∈X.fs
  ·obtain⟨sl,q⟩:=slot c o (I.cne x c e) hc nch ho (I.Sg x c e)
   exact⟨_,q,hd⟩
  ·exact⟨o,keep c o (I.cne x c e) hc nch ho (I.Sg x c e),hd⟩
 refine⟨I.ok,I.os,hg,⟨fun b o e n hb hx=>?_,fun b o e n hb hx=>?_,fun b o e n hx=>?_,fun b o e hx=>?_,fun b xs e=>tups b xs (I.base.tups b xs e),fun b o xs e=>zbB b o xs (I.base.zbB b o xs e),fun b ps e=>?_⟩,?_,fun x c e=>?_,?_,fun x c e=>?_,fun p hp=>?_,hok,I.len⟩
 ·exact keep b o (neL b o e) hb (neC b o e hx) (I.base.keep b o e n hb hx) (I.base.free b o e n hx)
 ·obtain⟨sl,e1⟩:=I.base.slot b o e n hb hx
  obtain⟨sl',e2⟩:=slot b _ (neL b o e) hb (neC b o e hx) e1 (I.base.free b o e n hx)
  exact⟨sl',e2⟩
 ·obtain⟨o',e1⟩:=I.base.there b o e hx
  exact free b o' (neC b o e hx) e1 (I.base.free b o e n hx)
 ·obtain⟨o',e1⟩:=I.base.there b o e hx
  exact there b o' (neC b o e hx) e1
 ·obtain⟨m1,e1⟩:=I.base.zcL b ps e
  obtain⟨m2,e2⟩:=zcL b _ e1
  exact⟨m1++m2,by rw[e2,Array.append_assoc]⟩
 ·obtain⟨m,hn,hl⟩:=I.loc
  refine⟨m,ns m hn,fun i x v e1 e2 e3=>?_⟩
  obtain⟨u,r,l⟩:=hl i x v e1 e2 e3
  refine⟨u,r,?_⟩
  rcases l with l | ⟨k,c,e,z⟩
  ·exact .inl l
  ·exact .inr ⟨k,c,e,cellK x c e _ z⟩
 ·obtain⟨v,z⟩:=I.cell x c e
  exact⟨v,cellK x c e v z⟩
 ·obtain⟨m,⟨o,_,_,ho,_⟩,_⟩:=I.loc
  exact free _ o (fun z=>(hch _ z).2.1 rfl) ho I.free
 ·obtain⟨v,o,ho,hd⟩:=I.cell x c e
  exact free c o (fun z=>(hch c z).2.2.1 x c e rfl) ho (I.Sg x c e)
 ·obtain⟨e,n,ne,nf,d⟩:=I.pin p hp
  have nch:p.1∉ch:=fun z=>(hch p.1 z).2.2.2 p hp rfl
  exact⟨keep p.1 p.2 ne nf nch e n,free p.1 p.2 nch e n,ne,nf,d⟩
theorem Inv.un {t':Nat}(I:Inv X pins σ H s)(u:Un X.fs [] H H' s.heap h')(hok:QT X.prog X.w H' h'):Inv X pins σ H' { s with heap:=h',toks:=t' }:=by
 obtain⟨m,⟨o,es,ep,ho,r⟩,_⟩:=id I.loc
 obtain⟨sl,hL⟩:=u.any ho I.free (by simp)
 exact I.step (g':=s.gens) (d':=s.drawn) (ch:=[]) (fun _ z=>nomatch z) (fun b o _ hb _ e n=>u.keep b o e n hb (by simp)) (fun b o _ hb _ e n=>u.slot b o e n hb (by simp)) (fun b o _ e n=>u.free b o e n (by simp)) (fun b o _ e=>u.there b o e (by simp)) u.tups u.zbB u.zcL (fun m' hm=>by
  obtain⟨o',es',ep',ho',r'⟩:=hm
  rw[ho] at ho';cases ho'
  exact⟨_,es',ep',hL,r'⟩) hok I.bare
theorem Inv.call {g':Array GenState}{t':Nat}{d':Drawn}{ch:List Addr}(I:Inv X pins σ H s)(u:Un (frs X.stack) ch H H' s.heap h')(hok:QT X.prog X.w H' h')(hg:AllBare g')
  (hch:∀b∈ch,(b∈X.ex\/X.s₀.heap.objs.size<=b)/\b≠X.env.locals/\(∀x c,X.env.cells.lookup x=some c->c≠b)/\∀p∈X.pn++pins,p.1≠b) :
  Inv X pins σ H' { s with heap:=h',gens:=g',drawn:=d',toks:=t' }:=by
 obtain⟨m,⟨o,es,ep,ho,r⟩,_⟩:=id I.loc
 obtain⟨sl,hL⟩:=u.any ho I.free fun z=>(hch _ z).2.1 rfl
 exact I.step (ch:=ch) hch (fun b o hL hb hc e n=>u.keep b o e n (fun z=>(List.mem_cons.mp (I.zcN b z)).elim hL hb) hc) (fun b o _ _ hc e n=>u.any e n hc) (fun b o hc e n=>u.free b o e n hc) (fun b o hc e=>u.there b o e hc) u.tups u.zbB u.zcL (fun m' hm=>by
  obtain⟨o',es',ep',ho',r'⟩:=hm
  rw[ho] at ho';cases ho'
  exact⟨_,es',ep',hL,r'⟩) hok hg
theorem Inv.turned {t':Nat}{it:Addr}(I:Inv X pins σ H s)(k:∀b o,b≠it->s.heap.get? b=some o->h'.get? b=some o)(hn:H it=none)(hL:it≠X.env.locals)
  (h1:it∈X.ex\/X.s₀.heap.objs.size<=it)(h2:∀x c,X.env.cells.lookup x=some c->c≠it)(h3:∀p∈X.pn++pins,p.1≠it):Inv X pins σ H { s with heap:=h',toks:=t' }:=by
 have nit:∀b u,H b=some u->b≠it:=fun b u e z=>by rw[z,hn] at e;cases e
 refine I.step (g':=s.gens) (d':=s.drawn) (ch:=[it]) (fun b hb=>?_) (fun b o _ _ hc e _=>k b o (fun z=>hc (by simp[z])) e) (fun b o _ _ hc e _=>⟨o.slots,k b o (fun z=>hc (by simp[z])) e⟩) (fun _ _ _ _ n=>n)
  (fun b o hc e=>⟨o,k b o (fun z=>hc (by simp[z])) e⟩) (fun _ _ e=>e) (fun _ _ _ e=>e) (fun b ps e=>⟨#[],by rw[e];simp⟩) (fun m hm=>?_) (fun b u e=>?_) I.bare
 ·have e:b=it:=by simpa using hb
  subst e
  exact⟨h1,hL,h2,h3⟩
 ·obtain⟨o,es,ep,ho,r⟩:=hm
  exact⟨o,es,ep,k _ o (Ne.symm hL) ho,r⟩
 ·refine(I.hok b u e).stay (fun c v hc q=>k c v ?_ q) (fun _ q=>q) fun _ _ q=>q
  rcases hc with z | z
  ·rw[z];exact nit b u e
  ·exact nit c _ z
theorem Inv.tok (I:Inv X pins σ H s)(t:Nat):Inv X pins σ H { s with toks:=t }:=I.un (h':=s.heap) (t':=t) Un.refl I.hok
theorem Inv.kept {t':Nat}(I:Inv X pins σ H s)(k:∀b u,s.heap.get? b=some u->h'.get? b=some u):Inv X pins σ H { s with heap:=h',toks:=t' }:=I.un (Un.kept k) (I.hok.kept k)
theorem Inv.laid {a:Addr}{o:HO}{t':Nat}(I:Inv X pins σ H s)(k:∀b u,s.heap.get? b=some u->h'.get? b=some u)(hp:s.heap.objs.size<=a)(new:xZ X.prog X.w (upd H a o) h' a o) :
  Inv X pins σ (upd H a o) { s with heap:=h',toks:=t' }:=I.un (Un.laid k hp (I.hok.fresh hp)) (I.hok.laid k hp new)
theorem Inv.write {x e:Addr}{o:HO}{t':Nat}(I:Inv X pins σ H s)(mu:Mut (H x))(he:e=x\/H e=some (.own x))(k:∀b u,b≠e->s.heap.get? b=some u->h'.get? b=some u)(heo:∃u,h'.get? e=some u)
  (new:xZ X.prog X.w (upd H x o) h' x o):Inv X pins σ (upd H x o) { s with heap:=h',toks:=t' }:=I.un (Un.write mu he k heo) (I.hok.write mu he k heo new)
theorem Inv.Xx {pins':List (Addr×Obj)}(I:Inv X pins σ H s)(h:∀p∈pins',s.heap.get? p.1=some p.2/\H p.1=none/\p.1≠X.env.locals/\p.1∉X.fs/\∀v,p.2.data≠.cell v):Inv X pins' σ H s :=
 ⟨I.ok,I.os,I.bare,I.base,I.loc,I.cell,I.free,I.Sg,fun p hp=>(List.mem_append.mp hp).elim (fun z=>I.pin p (List.mem_append_left _ z)) (h p),I.hok,I.len⟩
theorem zed {N:List Str}(hN:N.Nodup){i j:Nat}{x:Str}(a:N[i]?=some x)(b:N[j]?=some x):i=j:=by
 obtain⟨h1,e1⟩:=ztf.mp a
 obtain⟨h2,e2⟩:=ztf.mp b
 exact(List.getElem_inj hN).mp (e1.trans e2.symm)
theorem zhD {M:Model}{A:Around}{E:Value->Shared->Prop}{i:Nat}{x:Str}{v:V}{u:Value}{Q:Unit->Shared->Prop}(I:Inv X pins σ H s)(hN:X.N.Nodup)(hi:X.N[i]?=some x)(hx:Loc X.env.scope x)(r:RelV v u)
  (h:∀s',Inv X pins (σ.set i (some v)) H s'->(∃a,Heap.SameBut a s.heap s'.heap/\(a=X.env.locals\/X.env.cells.lookup x=some a))->Q () s')(hf:X.fn x=true\/X.env.scope.names.lookup x=some .local:=by first | exact .inl rfl | exact .inr rfl | assumption):wpAny M A (storeName X.env x u) Q E s:=by
 obtain⟨m,hn,hl⟩:=id I.loc
 have hcls:(X.env.scope.kind==.class||(X.env.scope.kind==.module&&X.env.locals != X.env.globals))=false:=by rw[I.ok.kind];rfl
 have hiσ:i < σ.length:=by rw[I.len];exact(ztf.mp hi).1
 have cne:=I.cne
 have tracked:∀{a:Addr} {h':Heap},(∃o,s.heap.get? a=some o/\H a=none)->Heap.SameBut a s.heap h'->QT X.prog X.w H h':=fun {a h'} ha hs b ob e=>by
  obtain⟨_,_,hfree⟩:=ha
  refine(I.hok b ob e).stay (fun c w' hc q=>(hs.2 c ?_).trans q) (fun _ q=>q) fun _ _ q=>q
  rintro rfl
  rcases hc with rfl | hc
  ·rw[hfree] at e;cases e
  ·rw[hfree] at hc;cases hc
 rcases hx with hk | hk
 ·refine wpAny_storeName_local hk hn (fun h' hn' hs=>?_) hcls
  obtain⟨oL,_,_,hoL,_⟩:=id hn
  refine h _ ⟨I.ok,I.os,I.bare,⟨fun b o e n hb hx=>?_,fun b o e n hb hx=>?_,I.base.free,fun b o e hx=>?_,I.base.tups,I.base.zbB,I.base.zcL⟩,⟨_,hn',fun j y v' e1 e2 e3=>?_⟩,fun y c e=>?_,I.free,I.Sg,fun p hp=>?_,tracked ⟨oL,hoL,I.free⟩ hs,by simpa using I.len⟩ ⟨_,hs,.inl rfl⟩
  ·exact(hs.2 b (ztr (ztl (ztj e) I.ok.above))).trans (I.base.keep b o e n hb hx)
  ·obtain⟨sl,e1⟩:=I.base.slot b o e n hb hx
   exact⟨sl,(hs.2 b (ztr (ztl (ztj e) I.ok.above))).trans e1⟩
  ·obtain⟨o',e1⟩:=I.base.there b o e hx
   exact⟨o',(hs.2 b (ztr (ztl (ztj e) I.ok.above))).trans e1⟩
  ·by_cases hj:j=i
   ·subst hj
    rw[hi] at e1;cases e1
    rw[List.getElem?_set_self hiσ] at e2
    cases e2
    exact⟨u,r,.inl ⟨hk,by simp⟩⟩
   ·rw[List.getElem?_set_ne (Ne.symm hj)] at e2
    obtain⟨u',r',q⟩:=hl j y v' e1 e2 e3
    refine⟨u',r',?_⟩
    rcases q with ⟨k,e⟩ | ⟨k,c,e,z⟩
    ·refine .inl ⟨k,?_⟩
     have:y≠x:=fun e=>hj (zed hN e1 (e ▸ hi))
     simp[this,e]
    ·exact .inr ⟨k,c,e,z.sameBut hs (cne y c e)⟩
  ·obtain⟨w',z⟩:=I.cell y c e
   exact⟨w',z.sameBut hs (cne y c e)⟩
  ·obtain⟨e,n,ne,nf,d⟩:=I.pin p hp
   exact⟨(hs.2 p.1 ne).trans e,n,ne,nf,d⟩
 ·have hfn:X.fn x=true:=by
   rcases hf with z | z
   ·exact z
   ·rw[z] at hk;cases hk
  obtain⟨c,hc⟩:=I.ok.has x (.inl hk)
  obtain⟨w',z⟩:=I.cell x c hc
  refine wpAny_storeName_cell I.ok.kind hk hc z (fun h' hc' hs=>?_)
  obtain⟨oc,hoc,zoP⟩:=id z
  refine h { s with heap:=h' } ⟨I.ok,I.os,I.bare,⟨fun b o e n hb hx=>?_,fun b o e n hb hx=>?_,I.base.free,fun b o e hx=>?_,I.base.tups,I.base.zbB,I.base.zcL⟩,⟨m,hn.sameBut hs (Ne.symm (cne x c hc)),fun j y v' e1 e2 e3=>?_⟩,fun y c' e=>?_,I.free,I.Sg,fun p hp=>?_,tracked ⟨oc,hoc,I.Sg x c hc⟩ hs,by simpa using I.len⟩ ⟨c,hs,.inr hc⟩
  ·exact(hs.2 b (ztr (ztl (ztj e) (I.ok.cab x c hfn hc)))).trans (I.base.keep b o e n hb hx)
  ·obtain⟨sl,e1⟩:=I.base.slot b o e n hb hx
   exact⟨sl,(hs.2 b (ztr (ztl (ztj e) (I.ok.cab x c hfn hc)))).trans e1⟩
  ·obtain⟨o',e1⟩:=I.base.there b o e hx
   exact⟨o',(hs.2 b (ztr (ztl (ztj e) (I.ok.cab x c hfn hc)))).trans e1⟩
  ·by_cases hj:j=i
   ·subst hj
    rw[hi] at e1;cases e1
    rw[List.getElem?_set_self hiσ] at e2
    cases e2
    exact⟨u,r,.inr ⟨.inl hk,c,hc,hc'⟩⟩
   ·rw[List.getElem?_set_ne (Ne.symm hj)] at e2
    obtain⟨u',r',q⟩:=hl j y v' e1 e2 e3
    refine⟨u',r',?_⟩
    rcases q with q | ⟨k,c',e,z'⟩
    ·exact .inl q
    ·refine .inr ⟨k,c',e,z'.sameBut hs ?_⟩
     rintro rfl
     exact hj (zed hN e1 (I.ok.inj _ _ _ e hc ▸ hi))
  ·by_cases hcc:c'=c
   ·subst hcc;exact⟨_,hc'⟩
   ·obtain⟨w2,z2⟩:=I.cell y c' e
    exact⟨w2,z2.sameBut hs hcc⟩
  ·obtain⟨e,n,ne,nf,d⟩:=I.pin p hp
   refine⟨(hs.2 p.1 ?_).trans e,n,ne,nf,d⟩
   intro q
   rw[q,hoc] at e
   have q':oc=p.2:=ztH e
   exact d w' (by rw[<-q'];exact zoP)
theorem zav {M:Model}{A:Around}{E:Value->Shared->Prop}{i:Nat}{x:Str}{v:V}{u:Value}{Q:Unit->Shared->Prop}(I:Inv X pins σ H s)(hN:X.N.Nodup)(hi:X.N[i]?=some x)(hx:Loc X.env.scope x)(r:RelV v u)
  (h:∀s',Inv X pins (σ.set i (some v)) H s'->Q () s')(hf:X.fn x=true\/X.env.scope.names.lookup x=some .local:=by first | exact .inl rfl | exact .inr rfl | assumption):wpAny M A (storeName X.env x u) Q E s :=
 zhD I hN hi hx r (fun s' I' _=>h s' I') hf
theorem Inv.call' {s':Shared}{ch:List Addr}(I:Inv X pins σ H s)(ho:s'.os=s.os)(u:Un (frs X.stack) ch H H' s.heap s'.heap)(hok:QT X.prog X.w H' s'.heap)(hg:AllBare s'.gens)
  (hch:∀b∈ch,(b∈X.ex\/X.s₀.heap.objs.size<=b)/\b≠X.env.locals/\(∀x c,X.env.cells.lookup x=some c->c≠b)/\∀p∈X.pn++pins,p.1≠b):Inv X pins σ H' s':=by
 obtain⟨h',g',d',t',o'⟩:=s'
 have e:o'=s.os:=ho
 subst e
 exact I.call (g':=g') (t':=t') (d':=d') u hok hg hch
end
abbrev XK:=Value->Option Addr->Hp->Prop
abbrev St:=List (Option V)
abbrev VK:=V->Hp->Prop
abbrev TE:=St->Hp->VK->Prop
abbrev TT:=St->Hp->(Bool->Hp->Prop)->Prop
abbrev TA:=St->Hp->(List V->Hp->Prop)->Prop
structure Ends where
 nx:St->Hp->Prop
 rt:VK
 bk:St->Hp->Prop:=fun _ _=>False
 ct:St->Hp->Prop:=fun _ _=>False
abbrev TS:=Ends->St->Hp->Prop
def EP (X:Cx)(pins:List (Addr×Obj))(σ:St)(Q:VK)(u:Value)(s':Shared):Prop:=∃v H',Inv X pins σ H' s'/\RelV v u/\Q v H'
def TP (X:Cx)(pins:List (Addr×Obj))(σ:St)(Q:Bool->Hp->Prop)(b:Bool)(s':Shared):Prop:=∃H',Inv X pins σ H' s'/\Q b H'
def AP (X:Cx)(pins:List (Addr×Obj))(σ:St)(Q:List V->Hp->Prop)(us:List Value)(s':Shared):Prop:=∃vs H',Inv X pins σ H' s'/\Vals vs us/\Q vs H'
def SP (X:Cx)(pins:List (Addr×Obj))(D:Ends)(f:Flow)(s':Shared):Prop :=
 match f with
 | .next=>∃ σ' H',Inv X pins σ' H' s'/\D.nx σ' H'
 | .brk=>∃ σ' H',Inv X pins σ' H' s'/\D.bk σ' H'
 | .cont=>∃ σ' H',Inv X pins σ' H' s'/\D.ct σ' H'
 | .ret u=>∃v σ' H',Inv X pins σ' H' s'/\RelV v u/\D.rt v H'
def PE (X:Cx)(e:Expr)(t:TE):Prop :=
 ∀(pins:List (Addr×Obj)) (s:Shared) (σ:St) (H:Hp) (Q:VK),Inv X pins σ H s->t σ H Q->wpAny (model X.prog X.w) X.A (eval e X.env) (EP X pins σ Q) X.xe s
def PT (X:Cx)(e:Expr)(t:TT):Prop :=
 ∀(pins:List (Addr×Obj)) (s:Shared) (σ:St) (H:Hp) (Q:Bool->Hp->Prop),Inv X pins σ H s->t σ H Q->wpAny (model X.prog X.w) X.A (isTrue e X.env (eval e X.env)) (TP X pins σ Q) X.xe s
def PW (X:Cx)(e:Expr)(t:TT):Prop :=
 ∀(whole:Sem Value) (pins:List (Addr×Obj)) (s:Shared) (σ:St) (H:Hp) (Q:Bool->Hp->Prop),Inv X pins σ H s->t σ H Q->wpAny (model X.prog X.w) X.A (isTrue e X.env whole) (TP X pins σ Q) X.xe s
theorem PW.pt {X:Cx}{e:Expr}{t:TT}(h:PW X e t):PT X e t:=h _
def PA (X:Cx)(es:List Expr)(t:TA):Prop :=
 ∀(pos:Pos) (pins:List (Addr×Obj)) (s:Shared) (σ:St) (H:Hp) (Q:List V->Hp->Prop),Inv X pins σ H s->t σ H Q->wpAny (model X.prog X.w) X.A (spliced (backTo pos (starEach es X.env))) (AP X pins σ Q) X.xe s
def PS (X:Cx)(st:Stmt)(t:TS):Prop :=
 ∀(pins:List (Addr×Obj)) (s:Shared) (σ:St) (H:Hp) (D:Ends),Inv X pins σ H s->t D σ H->wpAny (model X.prog X.w) X.A (exec st X.env) (SP X pins D) X.xe s
def PSs (X:Cx)(st:List Stmt)(t:TS):Prop :=
 ∀(pins:List (Addr×Obj)) (s:Shared) (σ:St) (H:Hp) (D:Ends),Inv X pins σ H s->t D σ H->wpAny (model X.prog X.w) X.A (execs st X.env) (SP X pins D) X.xe s
theorem wD {α:Type}{t:Sem α}{Q Q':α->Shared->Prop}{M:Model}{A:Around}{E:Value->Shared->Prop}{s:Shared}(h:wpAny M A t Q E s)(hQ:∀a s,Q a s->Q' a s):wpAny M A t Q' E s:=wpAny_mono h hQ fun _ _ x=>x
section
variable {X:Cx}
theorem bin {a b:Expr}{ta tb:TE}(ha:PE X a ta)(hb:PE X b tb){pins:List (Addr×Obj)}{s:Shared}{σ:St}{H:Hp}{R:V->V->Hp->Prop}(I:Inv X pins σ H s)(h:ta σ H fun x H1=>tb σ H1 fun y H2=>R x y H2)
  {α:Type}{Q:α->Shared->Prop}{f:Value->Value->Sem α}
  (hf:∀v u s2 x y H2,Inv X pins σ H2 s2->RelV x v->RelV y u->R x y H2->wpAny (model X.prog X.w) X.A (f v u) Q X.xe s2) :
  wpAny (model X.prog X.w) X.A (eval a X.env) (fun v s₁=>wpAny (model X.prog X.w) X.A (eval b X.env) (fun u s₂=>wpAny (model X.prog X.w) X.A (f v u) Q X.xe s₂) X.xe s₁) X.xe s:=by
 refine wD (ha pins s σ H _ I h) fun v s1 ⟨x,H1,I1,r1,q1⟩=>?_
 refine wD (hb pins s1 σ H1 _ I1 q1) fun u s2 ⟨y,H2,I2,r2,q2⟩=>?_
 exact hf v u s2 x y H2 I2 r1 r2 q2
inductive Sh (i:Nat)(σ:St)(H:Hp)(Q:V->Hp->Prop):Prop
 | mk (v:V) (_:σ[i]?=some (some v)) (_:Q v H):Sh i σ H Q
def tC (v:V):TE:=fun _ H Q=>Q v H
theorem zlY {i:Nat}{x:Str}{pos:Pos}(hN:X.N[i]?=some x)(hv:Vis X.env.scope x)(hd:(x==("__debug__" : Str))=false:=by decide)(hcd:(x==("__classdict__" : Str))=false:=by decide):PE X (.Name x pos) (Sh i):=by
 intro pins s σ H Q I h
 obtain⟨v,e,h⟩:=h
 obtain⟨m,hn,hl⟩:=I.loc
 obtain⟨u,r,l⟩:=hl i x v hN e hv
 have fin:EP X pins σ Q u s:=⟨v,H,I,r,h⟩
 rcases l with ⟨hk,hm⟩ | ⟨hk,c,hc,hcell⟩
 ·exact wpAny_Name (wpAny_loadName_local I.ok.kind hk hn hm fin) hd
 ·rcases hk with hk | hk
  ·exact wpAny_Name (wpAny_loadName_cell I.ok.kind hk hc hcell fin) hd
  ·exact wpAny_Name (wpAny_loadName_free I.ok.kind hk hc hcell fin hcd) hd
theorem zm {i j pos}:PE X (.Constant (.int i) j pos) (tC (.int i)):=fun _ _ _ H _ I h=>wpAny_Constant_int ⟨.int i,H,I.tok _,⟨_,rfl⟩,h⟩
theorem ZF {b j pos}:PE X (.Constant (.bool b) j pos) (tC (.bl b)):=fun _ _ _ H _ I h=>Constant_bool ⟨.bl b,H,I,rfl,h⟩
theorem yg {x j pos}:PE X (.Constant (.str x) j pos) (tC (.str x)):=fun _ _ _ H _ I h=>Calls.Constant_str ⟨.str x,H,I.tok _,⟨_,rfl⟩,h⟩
def Gl (X:Cx)(x:Str):Prop:=X.env.kindOf x=some .globalImplicit
theorem zcP {E:Value->Shared->Prop}{pins:List (Addr×Obj)}{s:Shared}{σ:St}{H:Hp}{x:Str}{u:Value}{pos:Pos}{Q:Value->Shared->Prop}(I:Inv X pins σ H s)(hg:Gl X x)(hm:X.mg x=some u)(h:Q u s)
  (hd:(x==("__debug__" : Str))=false:=by decide):wpAny (model X.prog X.w) X.A (eval (.Name x pos) X.env) Q E s :=
 Calls.Name_function_global I.ok.kind hg (Calls.loadGlobal_global (by rw[I.ok.glob];exact I.mod.glob.keeps I.bk) hm h) hd
theorem Wd {E:Value->Shared->Prop}{pins:List (Addr×Obj)}{s:Shared}{σ:St}{H:Hp}{x:Str}{u:Value}{pos:Pos}{Q:Value->Shared->Prop}(I:Inv X pins σ H s)(hg:Gl X x)(hm:X.mg x=none)(hv:bootBuiltins x=some u)(h:Q u s)
  (hn:x ≠ "__name__" := by decide)(hd:(x==("__debug__" : Str))=false:=by decide):wpAny (model X.prog X.w) X.A (eval (.Name x pos) X.env) Q E s:=by
 obtain⟨mb,h1,h2⟩:=I.mod.blt
 exact Calls.Name_function_global I.ok.kind hg (Calls.loadGlobal_builtin (by rw[I.ok.glob];exact I.mod.glob.keeps I.bk) hm (by rw[I.ok.blt];exact h1.keeps I.bk) ((h2 x hn).trans hv) h) hd
theorem W9 {x:Str}{v:V}{u:Value}{pos:Pos}(hg:Gl X x)(hm:X.mg x=some u)(r:RelV v u)(hd:(x==("__debug__" : Str))=false:=by decide):PE X (.Name x pos) (tC v) :=
 fun _ _ _ H _ I h=>zcP I hg hm ⟨v,H,I,r,h⟩ hd
theorem zcQ {x:Str}{v:V}{u:Value}{pos:Pos}(hg:Gl X x)(hm:X.mg x=none)(hv:bootBuiltins x=some u)(r:RelV v u)(hn:x ≠ "__name__" := by decide)(hd:(x==("__debug__" : Str))=false:=by decide):PE X (.Name x pos) (tC v) :=
 fun _ _ _ H _ I h=>Wd I hg hm hv ⟨v,H,I,r,h⟩ hn hd
variable {a b:Expr}{ta tb:TE}{pos:Pos}
def PC (X:Cx)(op:CmpOp)(a b:Expr)(t:TE):Prop :=
 ∀(pins:List (Addr×Obj)) (s:Shared) (σ:St) (H:Hp) (Q:VK),Inv X pins σ H s->t σ H Q ->
  wpAny (model X.prog X.w) X.A (eval a X.env) (fun v s₁=>wpAny (model X.prog X.w) X.A (eval b X.env) (fun u s₂=>wpAny (model X.prog X.w) X.A (compareOp op v u) (EP X pins σ Q) X.xe s₂) X.xe s₁) X.xe s
def tB (t:TE):TT:=fun σ H Q=>t σ H fun x H1=>∃c,x=.bl c/\Q c H1
theorem zlZ {op:CmpOp}{t:TE}(h:PC X op a b t)(h1:behindInMarks op b=false:=by first | exact zm6 _ (by decide) (by decide) | rfl):PT X (.Compare a [op] [b] pos) (tB t):=by
 intro pins s σ H Q I hw
 refine wpAny_isTrue_Compare1 (wD (h pins s σ H _ I hw) fun v s1 h1=>wD h1 fun u s2 h2=>wD h2 fun c s3 ⟨x,H1,I1,r1,q1⟩=>?_) h1
 obtain⟨d,rfl,q⟩:=q1
 cases r1
 exact wpAny_truthy_bool ⟨H1,I1,q⟩
variable {tA tB':TT}{rest:List Expr}
def zoQ (t u:TT):TT:=fun σ H Q=>t σ H fun c H1=>if c=true then u σ H1 Q else Q false H1
def tOr (t u:TT):TT:=fun σ H Q=>t σ H fun c H1=>if c=true then Q true H1 else u σ H1 Q
def zoR (t:TT):TT:=fun σ H Q=>t σ H fun c H1=>Q (!c) H1
theorem Ze (ha:PT X a tA):PW X (.BoolOp .And [a] pos) tA:=by
 intro wh pins s σ H Q I h
 refine isTrue_and (wD (ha pins s σ H Q I h) fun c s1 e=>?_)
 cases c with
 | true=>exact isTrue_and_nil e
 | false=>exact e
theorem Us (ha:PT X a tA):PW X (.BoolOp .Or [a] pos) tA:=by
 intro wh pins s σ H Q I h
 refine isTrue_or (wD (ha pins s σ H Q I h) fun c s1 e=>?_)
 cases c with
 | false=>exact isTrue_or_nil e
 | true=>exact e
theorem ZG (ha:PT X a tA)(hb:PW X (.BoolOp .And (b::rest) pos) tB'):PW X (.BoolOp .And (a::b::rest) pos) (zoQ tA tB'):=by
 intro wh pins s σ H Q I h
 refine isTrue_and (wD (ha pins s σ H _ I h) fun c s1 ⟨H1,I1,q1⟩=>?_)
 cases c with
 | true=>exact hb wh pins s1 σ H1 Q I1 q1
 | false=>exact⟨H1,I1,q1⟩
theorem Q7 (ha:PT X a tA)(hb:PW X (.BoolOp .Or (b::rest) pos) tB'):PW X (.BoolOp .Or (a::b::rest) pos) (tOr tA tB'):=by
 intro wh pins s σ H Q I h
 refine isTrue_or (wD (ha pins s σ H _ I h) fun c s1 ⟨H1,I1,q1⟩=>?_)
 cases c with
 | true=>exact⟨H1,I1,q1⟩
 | false=>exact hb wh pins s1 σ H1 Q I1 q1
theorem ZJ (ha:PT X a tA):PT X (.UnaryOp .Not a pos) (zoR tA):=by
 intro pins s σ H Q I h
 exact isTrue_not (ha pins s σ H (fun c H1=>Q (!c) H1) I h)
def zm7 (ta tb:TE):TE:=fun σ H Q=>ta σ H fun x H1=>∃c,x=.bl c/\if c=true then tb σ H1 Q else Q (.bl false) H1
def zm8 (ta:TE):TE:=fun σ H Q=>ta σ H fun x H1=>∃c,x=.bl c/\Q (.bl (!c)) H1
theorem zaw {op}{t:TE}(h:PE X a t):PE X (.BoolOp op [a] pos) t:=fun pins s σ H Q I hw=>BoolOp_one (h pins s σ H Q I hw)
theorem LR (ha:PE X a ta)(hb:PE X (.BoolOp .And (b::rest) pos) tb):PE X (.BoolOp .And (a::b::rest) pos) (zm7 ta tb):=by
 intro pins s σ H Q I h
 refine BoolOp_and (wD (ha pins s σ H _ I h) fun v s1 ⟨x,H1,I1,r1,q1⟩=>?_)
 obtain⟨c,rfl,q1⟩:=q1
 cases r1
 refine wpAny_truthy_bool ?_
 cases c with
 | true=>exact hb pins s1 σ H1 Q I1 q1
 | false=>exact⟨.bl false,H1,I1,rfl,q1⟩
theorem zl0 (ha:PE X a ta):PE X (.UnaryOp .Not a pos) (zm8 ta):=by
 intro pins s σ H Q I h
 refine UnaryOp_ (wD (ha pins s σ H _ I h) fun v s1 ⟨x,H1,I1,r1,q1⟩=>?_)
 obtain⟨c,rfl,q1⟩:=q1
 cases r1
 exact not_of (wpAny_truthy_bool ⟨.bl (!c),H1,I1,rfl,q1⟩)
def tIf (t:TT)(ta tb:TE):TE:=fun σ H Q=>t σ H fun c H1=>if c=true then ta σ H1 Q else tb σ H1 Q
theorem Mi {c:Expr}(hc:PT X c tA)(ha:PE X a ta)(hb:PE X b tb):PE X (.IfExp c a b pos) (tIf tA ta tb):=by
 intro pins s σ H Q I h
 refine wpAny_IfExp (wD (hc pins s σ H _ I h) fun d s1 ⟨H1,I1,q1⟩=>?_)
 cases d with
 | true=>exact ha pins s1 σ H1 Q I1 q1
 | false=>exact hb pins s1 σ H1 Q I1 q1
end
def zP (K:Frag)(H:Hp)(a:Addr)(xs:List V):Prop :=
 Rd H a (.lst xs) \/
  ∃(o:Obj) (its:Array Value) (n:Nat),K.lookup a=some o/\o.cls=.type "list" /\ o.dict=none/\o.data=.seq its n/\its.size<=sizeLine/\Vals xs its.toList
def wY (K:Frag)(H:Hp)(a:Addr)(xs:List V):Prop :=
 Rd H a (.tup xs) \/
  ∃(o:Obj) (its:Array Value) (n:Nat),K.lookup a=some o/\o.cls=.type "tuple" /\ o.data=.seq its n/\its.size<=sizeLine/\Vals xs its.toList
def zbC:Value->Option V
 | .none=>some .non
 | .bool b=>some (.bl b)
 | .int i _=>some (.int i)
 | .str x _=>some (.str x)
 | .bytes b _=>some (.byt b)
 | .float b _=>some (.flt b)
 | .ref a=>some (.ref a)
 | .type n=>some (.ty n)
 | _=>none
theorem RelV.abs {x:V}{u:Value}(r:RelV x u):zbC u=some x:=by
 cases x with
 | non=>cases r;rfl
 | bl _=>cases r;rfl
 | int _=>obtain⟨t,rfl⟩:=r;rfl
 | str _=>obtain⟨t,rfl⟩:=r;rfl
 | byt _=>obtain⟨t,rfl⟩:=r;rfl
 | flt _=>obtain⟨t,rfl⟩:=r;rfl
 | ref _=>cases r;rfl
 | ty _=>cases r;rfl
theorem RelV.inj {x y:V}{u:Value}(r:RelV x u)(q:RelV y u):x=y:=ztH (r.abs.symm.trans q.abs)
theorem Vals.inj:∀{xs ys:List V} {us:List Value},Vals xs us->Vals ys us->xs=ys
 | _,_,_,.nil,.nil=>rfl
 | _,_,_,.cons r t,.cons r' t'=>by rw[r.inj r',Vals.inj t t']
section
variable {X:Cx}{pins:List (Addr×Obj)}{σ:St}{H:Hp}{s:Shared}{a:Addr}{xs ys:List V}
theorem zP.of {K:Frag}(h:H a=some (.lst xs)):zP K H a xs:=.inl (.inl h)
theorem wY.of {K:Frag}(h:H a=some (.tup xs)):wY K H a xs:=.inl (.inl h)
theorem Inv.list (I:Inv X pins σ H s)(h:zP X.K H a xs):∃its:List Value,Vals xs its/\PlainL s.heap a its.toArray/\xs.length<=sizeLine:=by
 rcases h with h | ⟨o,its,n,hk,hc,hd,hs,hz,r⟩
 ·obtain⟨z,its,n,r,e⟩:=h.ok I.hok
  exact⟨its,r,⟨_,n,e,rfl,rfl,rfl⟩,z⟩
 ·refine⟨its.toList,r,⟨o,n,I.LQ a o hk,hc,hd,by simpa using hs⟩,?_⟩
  have e:=r.length
  simp only[Array.length_toList] at e
  omega
theorem Inv.tuple (I:Inv X pins σ H s)(h:wY X.K H a xs):∃its:List Value,Vals xs its/\IsTup s.heap a its.toArray/\xs.length<=sizeLine:=by
 rcases h with h | ⟨o,its,n,hk,hc,hs,hz,r⟩
 ·obtain⟨z,its,r,p⟩:=h.ok I.hok
  exact⟨its,r,p,z⟩
 ·refine⟨its.toList,r,⟨o,I.LQ a o hk,hc,n,by simpa using hs⟩,?_⟩
  have e:=r.length
  simp only[Array.length_toList] at e
  omega
theorem Inv.Wf (I:Inv X pins σ H s)(h:zP X.K H a xs)(h':zP X.K H a ys):xs=ys:=by
 obtain⟨its,r,⟨o,n,e,_,_,d⟩,_⟩:=I.list h
 obtain⟨its',r',⟨o',n',e',_,_,d'⟩,_⟩:=I.list h'
 rw[e] at e';cases e'
 rw[d] at d'
 injection d' with d1 _
 have:its=its':=by simpa using congrArg Array.toList d1
 subst this
 exact r.inj r'
theorem Inv.zb7 (I:Inv X pins σ H s)(h:wY X.K H a xs)(h':wY X.K H a ys):xs=ys:=by
 obtain⟨its,r,⟨o,e,_,n,d⟩,_⟩:=I.tuple h
 obtain⟨its',r',⟨o',e',_,n',d'⟩,_⟩:=I.tuple h'
 rw[e] at e';cases e'
 rw[d] at d'
 injection d' with d1 _
 have:its=its':=by simpa using congrArg Array.toList d1
 subst this
 exact r.inj r'
end
abbrev Cx.wish (X:Cx)(E:Value->Shared->Prop):Cx:={ X with xe:=E }
abbrev Cx.nox (X:Cx):Cx:=X.wish fun _ _=>False
theorem Cx.Ok.wish {X:Cx}(ok:X.Ok)(E:Value->Shared->Prop):(X.wish E).Ok :=
 ⟨ok.mod,ok.kind,ok.glob,ok.blt,ok.above,ok.inj,ok.has,ok.cab,ok.hd,ok.frames,ok.stk,ok.exf,ok.bs,ok.bsz,ok.zhB,ok.zhC,ok.LK,ok.frf⟩
theorem Cx.Ok.Sq {X:Cx}{E:Value->Shared->Prop}(ok:(X.wish E).Ok):X.Ok :=
 ⟨ok.mod,ok.kind,ok.glob,ok.blt,ok.above,ok.inj,ok.has,ok.cab,ok.hd,ok.frames,ok.stk,ok.exf,ok.bs,ok.bsz,ok.zhB,ok.zhC,ok.LK,ok.frf⟩
section
variable {X:Cx}{pins:List (Addr×Obj)}{σ:St}{H:Hp}{s:Shared}{E:Value->Shared->Prop}
theorem Inv.wish (I:Inv X pins σ H s)(E:Value->Shared->Prop):Inv (X.wish E) pins σ H s:=⟨I.ok.wish E,I.os,I.bare,I.base,I.loc,I.cell,I.free,I.Sg,I.pin,I.hok,I.len⟩
theorem Inv.Sq (I:Inv (X.wish E) pins σ H s):Inv X pins σ H s:=⟨I.ok.Sq,I.os,I.bare,I.base,I.loc,I.cell,I.free,I.Sg,I.pin,I.hok,I.len⟩
theorem SP.Sq {D:Ends}{f:Flow}{s':Shared}(h:SP (X.wish E) pins D f s'):SP X pins D f s':=by
 cases f with
 | next=>obtain⟨σ',H',I,q⟩:=h;exact⟨σ',H',I.Sq,q⟩
 | brk=>obtain⟨σ',H',I,q⟩:=h;exact⟨σ',H',I.Sq,q⟩
 | cont=>obtain⟨σ',H',I,q⟩:=h;exact⟨σ',H',I.Sq,q⟩
 | ret u=>obtain⟨v,σ',H',I,r,q⟩:=h;exact⟨v,σ',H',I.Sq,r,q⟩
theorem PSs.nox {st:List Stmt}{t:TS}(h:PSs X.nox st t):PSs X st t:=fun pins s σ H D I hw =>
 wpAny_mono (h pins s σ H D (I.wish _) hw) (fun _ _ q=>q.Sq) fun _ _ z=>False.elim z
end
section
variable {X:Cx}{st:Stmt}{rest:List Stmt}{t u:TS}{e:Expr}{te:TE}{pos:Pos}
def zm9:TS:=fun D σ H=>D.nx σ H
def zoS (t u:TS):TS:=fun D σ H=>t { D with nx:=u D } σ H
theorem zT:PSs X [] zm9:=fun _ _ σ H _ I h=>wpAny_execs_nil ⟨σ,H,I,h⟩
theorem zj (h1:PS X st t)(h2:PSs X rest u):PSs X (st::rest) (zoS t u):=by
 intro pins s σ H D I h
 refine wpAny_execs_cons (wD (h1 pins s σ H { D with nx:=u D } I h) fun f s1 q=>?_)
 cases f with
 | next =>
  obtain⟨σ',H',I',q⟩:=q
  exact h2 pins s1 σ' H' D I' q
 | ret v=>exact q
 | brk=>exact q
 | cont=>exact q
theorem zq (h1:PS X st t):PSs X [st] t:=by
 intro pins s σ H D I h
 refine wpAny_execs_cons (wD (h1 pins s σ H D I h) fun f s1 q=>?_)
 cases f with
 | next=>exact wpAny_execs_nil q
 | ret v=>exact q
 | brk=>exact q
 | cont=>exact q
theorem Inv.quiet {pins:List (Addr×Obj)}{σ:St}{H:Hp}{s:Shared}(I:Inv X pins σ H s):interactive X.env=false:=by simp[interactive,I.ok.kind]
def zna (te:TE):TS:=fun D σ H=>te σ H fun _ H1=>D.nx σ H1
theorem yh (he:PE X e te)(hs:swapsWith e none pos.line X.env=pure false:=by rfl):PS X (.Expr e pos) (zna te):=by
 intro pins s σ H D I h
 exact wpAny_Expr_any (wD (he pins s σ H _ I h) fun v s1 ⟨x,H1,I1,r1,q1⟩=>⟨σ,H1,I1,q1⟩) I.quiet hs
def zoT (te:TE):TS:=fun D σ H=>te σ H D.rt
theorem zL (he:PE X e te):PS X (.Return (some e) pos) (zoT te):=by
 intro pins s σ H D I h
 exact wpAny_Return_some (wD (he pins s σ H _ I h) fun v s1 ⟨x,H1,I1,r1,q1⟩=>⟨x,σ,H1,I1,r1,q1⟩)
def zoU (c:TT)(t u:TS):TS:=fun D σ H=>c σ H fun b H1=>if b=true then t D σ H1 else u D σ H1
theorem yq {c:Expr}{a b:List Stmt}{tc:TT}(hc:PT X c tc)(ha:PSs X a t)(hb:PSs X b u):PS X (.If c a b pos) (zoU tc t u):=by
 intro pins s σ H D I h
 refine wpAny_If (wD (hc pins s σ H _ I h) fun d s1 ⟨H1,I1,q1⟩=>?_)
 cases d with
 | true=>exact ha pins s1 σ H1 D I1 q1
 | false=>exact hb pins s1 σ H1 D I1 q1
def zl1:TS:=fun _ _ _=>False
theorem Ss:PS X st zl1:=fun _ _ _ _ _ _ h=>h.elim
end
abbrev TG:=V->St->Hp->(St->Hp->Prop)->Prop
abbrev TGs:=List V->St->Hp->(St->Hp->Prop)->Prop
def PG (X:Cx)(target:Expr)(t:TG):Prop :=
 ∀(pins:List (Addr×Obj)) (s:Shared) (σ:St) (H:Hp) (v:V) (u:Value) (Q:St->Hp->Prop),Inv X pins σ H s->RelV v u->t v σ H Q ->
  wpAny (model X.prog X.w) X.A (assign target X.env u) (fun _ s'=>∃ σ' H',Inv X pins σ' H' s'/\Q σ' H') X.xe s
def PGs (X:Cx)(ts:List Expr)(t:TGs):Prop :=
 ∀(pins:List (Addr×Obj)) (s:Shared) (σ:St) (H:Hp) (vs:List V) (us:List Value) (Q:St->Hp->Prop),Inv X pins σ H s->Vals vs us->t vs σ H Q ->
  wpAny (model X.prog X.w) X.A (assignInOrder ((assignEach ts X.env).map (·.2)) us) (fun _ s'=>∃ σ' H',Inv X pins σ' H' s'/\Q σ' H') X.xe s
abbrev zl3:=V->V->V->Hp->(Hp->Prop)->Prop
def znb (X:Cx)(t:zl3):Prop :=
 ∀(pins:List (Addr×Obj)) (s:Shared) (σ:St) (H:Hp) (o i v:V) (ov iv u:Value) (Q:Hp->Prop),Inv X pins σ H s->RelV o ov->RelV i iv->RelV v u->t o i v H Q ->
  wpAny (model X.prog X.w) X.A (setItem ov iv u) (fun _ s'=>∃H',Inv X pins σ H' s'/\Q H') X.xe s
abbrev TIp:=V->V->Hp->VK->Prop
def PIp (X:Cx)(op:Operator)(t:TIp):Prop :=
 ∀(pins:List (Addr×Obj)) (s:Shared) (σ:St) (H:Hp) (x y:V) (v u:Value) (Q:VK),Inv X pins σ H s->RelV x v->RelV y u->t x y H Q ->
  wpAny (model X.prog X.w) X.A (inplaceOp op v u) (EP X pins σ Q) X.xe s
section
variable {X:Cx}{pos:Pos}
def uF (i:Nat):TG:=fun v σ H Q=>Q (σ.set i (some v)) H
theorem yw {i:Nat}{x:Str}(hN:X.N.Nodup)(hi:X.N[i]?=some x)(hx:Loc X.env.scope x)(hf:X.fn x=true\/X.env.scope.names.lookup x=some .local:=by first | exact .inl rfl | exact .inr rfl | assumption):PG X (.Name x pos) (uF i):=by
 intro pins s σ H v u Q I r h
 exact wpAny_assign_Name (zav I hN hi hx r (fun s' I'=>⟨_,H,I',h⟩) hf)
def zfA:TGs:=fun vs σ H Q=>vs=[]/\Q σ H
def V0 (t:TG)(u:TGs):TGs:=fun vs σ H Q=>∃v r,vs=v::r/\t v σ H fun σ' H'=>u r σ' H' Q
theorem zaa:PGs X [] zfA:=by
 intro pins s σ H vs us Q I r h
 obtain⟨e,h⟩:=h
 subst e
 cases r
 exact assignInOrder_nil ⟨σ,H,I,h⟩
theorem Xc {e:Expr}{es:List Expr}{t:TG}{u:TGs}(h1:PG X e t)(h2:PGs X es u)
  (hs:(assignEach (e::es) X.env).map (·.2)=assign e X.env::(assignEach es X.env).map (·.2):=by rfl):PGs X (e::es) (V0 t u):=by
 intro pins s σ H vs us Q I r h
 obtain⟨v,vr,e1,h⟩:=h
 subst e1
 cases r with
 | cons r rr =>
  rw[hs]
  refine assignInOrder_cons (wD (h1 pins s σ H _ _ _ I r h) fun _ s1 ⟨σ1,H1,I1,q1⟩=>?_)
  exact h2 pins s1 σ1 H1 _ _ Q I1 rr q1
def zfB (K:Frag)(n:Nat)(t:TGs):TG:=fun v σ H Q=>∃a xs,v=.ref a/\wY K H a xs/\xs.length=n/\t xs σ H Q
theorem zcR {es:List Expr}{k:Nat}{t:TGs}{n:Nat}(hc:X.calm=true)(h:PGs X es t)
  (hn:(assignEach es X.env).length=n:=by rfl)(hst:(assignEach es X.env).findIdx? (·.1)=none:=by rfl):PG X (.Tuple es k pos) (zfB X.K n t):=by
 intro pins s σ H v u Q I r hw
 obtain⟨a,xs,e1,hq,hl,hw⟩:=hw
 subst e1
 cases r
 obtain⟨its,rv,ht,hz⟩:=I.tuple hq
 refine assign_Tuple_tuple (I.ok.hd hc) ht (by simp[hn,<-hl,rv.length]) hst fun h' hx=>?_
 have I1:Inv X pins σ H { s with heap:=h' }:=I.kept (t':=s.toks) fun b o e=>hx b o (ztr (ztj e)) e
 exact h pins _ σ H xs _ Q I1 (by simpa using rv) hw
def zoW (to ti:TE)(t:zl3):TG:=fun v σ H Q=>to σ H fun o H1=>ti σ H1 fun i H2=>t o i v H2 fun H3=>Q σ H3
theorem zcS {o i:Expr}{to ti:TE}{t:zl3}(ho:PE X o to)(hi:PE X i ti)(hs:znb X t)
  (ha:∀v,assign (.Subscript o i pos) X.env v=(do
   let ov <-holding [v] (eval o X.env)
   let iv <-holding [v,ov] (eval i X.env)
   standAt pos
   holding [v,ov,iv] (setItem ov iv v)
   release [v,ov,iv] []):=by intro _;rfl):PG X (.Subscript o i pos) (zoW to ti t):=by
 intro pins s σ H v u Q I r h
 rw[ha]
 refine wpAny_bind (wpAny_holding (wD (ho pins s σ H _ I h) fun ov s1 ⟨x,H1,I1,r1,q1⟩=>?_))
 refine wpAny_bind (wpAny_holding (wD (hi pins s1 σ H1 _ I1 q1) fun iv s2 ⟨y,H2,I2,r2,q2⟩=>?_))
 refine wpAny_bind (wpAny_standAt (wpAny_bind (wpAny_holding (wD (hs pins s2 σ H2 x y v ov iv u _ I2 r1 r2 r q2) fun _ s3 ⟨H3,I3,q3⟩=>?_))))
 exact wpAny_release ⟨σ,H3,I3,q3⟩
def zj7 (te:TE)(g:TG):TS:=fun D σ H=>te σ H fun x H1=>g x σ H1 D.nx
theorem zax {tg e:Expr}{te:TE}{g:TG}(he:PE X e te)(hg:PG X tg g)(hs:swapsWithSole [tg] e pos.line X.env=pure false:=by rfl)(hw:swappedStores [tg] e X.env=pure none:=by rfl)
  (h1:(assignEach [tg] X.env).map (·.2)=[assign tg X.env]:=by rfl):PS X (.Assign [tg] e pos) (zj7 te g):=by
 intro pins s σ H D I h
 refine wpAny_Assign_stores (wD (he pins s σ H _ I h) fun v s1 ⟨x,H1,I1,r1,q1⟩=>?_) hs hw
 rw[h1]
 exact wD (hg pins s1 σ H1 x v _ I1 r1 q1) fun _ s2 q=>q
theorem Ka {i:Nat}{x:Str}{e:Expr}{te:TE}{pos':Pos}(hN:X.N.Nodup)(hi:X.N[i]?=some x)(hx:Loc X.env.scope x)(he:PE X e te)(hs:swapsWith e (some (.Name x pos')) pos.line X.env=pure false:=by rfl)(hf:X.fn x=true\/X.env.scope.names.lookup x=some .local:=by first | exact .inl rfl | exact .inr rfl | assumption) :
  PS X (.Assign [.Name x pos'] e pos) (zj7 te (uF i)):=by
 intro pins s σ H D I h
 refine wpAny_Assign_Name (wD (he pins s σ H _ I h) fun v s1 ⟨y,H1,I1,r1,q1⟩=>?_) hs
 exact zav I1 hN hi hx r1 (fun s2 I2=>⟨_,H1,I2,q1⟩) hf
def zoX (i:Nat)(te:TE)(ti:TIp):TS:=fun D σ H=>∃x,σ[i]?=some (some x)/\te σ H fun y H1=>ti x y H1 fun z H2=>D.nx (σ.set i (some z)) H2
theorem zfC {i:Nat}{x:Str}{e:Expr}{te:TE}{op:Operator}{ti:TIp}{pos':Pos}(hN:X.N.Nodup)(hi:X.N[i]?=some x)(hx:Loc X.env.scope x)(he:PE X e te)(ho:PIp X op ti)(hf:X.fn x=true\/X.env.scope.names.lookup x=some .local:=by first | exact .inl rfl | exact .inr rfl | assumption) :
  PS X (.AugAssign (.Name x pos') op e pos) (zoX i te ti):=by
 intro pins s σ H D I h
 obtain⟨v,e1,h⟩:=h
 obtain⟨m,hn,hl⟩:=I.loc
 have vis:Vis X.env.scope x:=by rcases hx with k | k;exact .inl k;exact .inr (.inl k)
 obtain⟨u,r,l⟩:=hl i x v hi e1 vis
 refine wpAny_AugAssign_Name ?_
 have go:wpAny (model X.prog X.w) X.A (eval e X.env) (fun w s₂=>wpAny (model X.prog X.w) X.A (inplaceOp op u w) (fun r s₃=>wpAny (model X.prog X.w) X.A (storeName X.env x r) (fun _=>SP X pins D .next) X.xe s₃) X.xe s₂) X.xe s:=by
  refine wD (he pins s σ H _ I h) fun w s1 ⟨y,H1,I1,r1,q1⟩=>?_
  refine wD (ho pins s1 σ H1 v y u w _ I1 r r1 q1) fun z s2 ⟨zv,H2,I2,r2,q2⟩=>?_
  exact zav I2 hN hi hx r2 (fun s3 I3=>⟨_,H2,I3,q2⟩) hf
 rcases l with ⟨hk,hm⟩ | ⟨hk,c,hc,hcell⟩
 ·exact wpAny_loadName_local I.ok.kind hk hn hm go
 ·rcases hk with hk | hk
  ·exact wpAny_loadName_cell I.ok.kind hk hc hcell go
  ·rcases hx with k | k
   ·have:X.env.scope.names.lookup x=some .free:=hk
    rw[k] at this;cases this
   ·have:X.env.scope.names.lookup x=some .free:=hk
    rw[k] at this;cases this
def zl4 (c:TT)(tb:TS):TS:=fun D σ H=>∃W:Nat->St->Hp->Prop,(∃m,W m σ H)/\∀m σ H,W m σ H ->
 c σ H fun b H1=>if b=true then ∃N:St->Hp->Prop,(∀ σ' H',N σ' H'->∃m',m'<m/\W m' σ' H')/\tb { D with nx:=N,ct:=N,bk:=D.nx } σ H1 else D.nx σ H1
theorem zay {c:Expr}{body:List Stmt}{tc:TT}{tb:TS}(hp:PassesOwn (model X.prog X.w) X.A X.env X.xe)(hc:PT X c tc)(hb:PSs X body tb):PS X (.While c body [] pos) (zl4 tc tb):=by
 intro pins s σ H D I h
 obtain⟨W,⟨m0,w0⟩,turn⟩:=h
 refine wpAny_While (codeAny_whileLoop (fun n s'=>∃ σ' H',Inv X pins σ' H' s'/\W n σ' H') ?_ m0 ⟨σ,H,I,w0⟩)
 rintro n s1 ⟨σ1,H1,I1,w1⟩
 refine wpAny_passesOwn hp (wD (hc pins s1 σ1 H1 _ I1 (turn n σ1 H1 w1)) fun b s2 ⟨H2,I2,q2⟩=>?_)
 cases b with
 | true =>
  obtain⟨N,hN,q2⟩:=q2
  rw[if_pos rfl]
  refine wpAny_passesOwn hp (wD (hb pins s2 σ1 H2 _ I2 q2) fun f s3 q3=>?_)
  cases f with
  | next =>
   obtain⟨σ3,H3,I3,n3⟩:=q3
   obtain⟨m',hm,w3⟩:=hN σ3 H3 n3
   exact⟨m',hm,σ3,H3,I3,w3⟩
  | cont =>
   obtain⟨σ3,H3,I3,n3⟩:=q3
   obtain⟨m',hm,w3⟩:=hN σ3 H3 n3
   exact⟨m',hm,σ3,H3,I3,w3⟩
  | brk=>exact q3
  | ret v=>exact q3
 | false =>
  rw[if_neg ztg]
  exact wpAny_execs_nil ⟨σ1,H2,I2,q2⟩
end
structure It where
 go:Nat->Hp->Prop
 Qe:Nat->Hp->V->Hp->Prop
 stop:Nat->Hp->Prop
def zbD (X:Cx)(pins:List (Addr×Obj))(H:Hp)(b:Addr):Prop :=
 H b=none/\b≠X.env.locals/\b∉X.fs/\(b∈X.ex\/X.s₀.heap.objs.size<=b)/\(∀x c,X.env.cells.lookup x=some c->c≠b)/\∀p∈X.pn++pins,p.1≠b
theorem Inv.zee {X:Cx}{pins:List (Addr×Obj)}{σ:St}{H H':Hp}{s:Shared}{b:Addr}(I:Inv X pins σ H s)(hb:s.heap.objs.size<=b)(hn:H' b=none):zbD X pins H' b:=by
 refine⟨hn,Nat.ne_of_gt (ztl I.lt hb),I.zlW hb,.inr (zty I.sz hb),fun x c e z=>?_,fun p hp z=>?_⟩
 ·obtain⟨v,q⟩:=I.cell x c e
  exact absurd (ztl q.lt (by rw[z];exact hb)) (Nat.lt_irrefl _)
 ·exact absurd (ztl (ztj (I.pin p hp).1) (by rw[z];exact hb)) (Nat.lt_irrefl _)
abbrev Calm (X:Cx):Prop:=X.calm=true
structure Turn (P:Program)(w:World)(K:Frag)(tg:Expr)(J:It)(fp:List Addr)(it:Addr)(tn:Nat->Heap->Prop)(rd:Cx->Prop:=Calm):Prop where
 mem:it∈fp
 obj:∀i h,tn i h->∀b∈fp,∃o,h.get? b=some o/\∀v,o.data≠.cell v
 keep:∀i h h',tn i h->(∀b∈fp,∀o,h.get? b=some o->h'.get? b=some o)->tn i h'
 item:∀(X:Cx),X.prog=P->X.w=w->X.K=K->rd X->∀(i:Nat) (pins:List (Addr×Obj)) (s:Shared) (σ:St) (H:Hp) (E:Value->Shared->Prop),Inv X pins σ H s->(∀b∈fp,zbD X pins H b)->tn i s.heap->J.go i H ->
  wpAny (model P w) X.A (pyNext (.ref it)) (fun r s1=>∃u,r=some u /\
   wpAny (model P w) X.A (letOwnedTupleGo tg (.ref it) u) (fun _ s2=>∃x H',Inv X pins σ H' s2/\RelV x u/\J.Qe i H x H'/\tn (i+1) s2.heap/\∀b∈fp,H' b=none) E s1) E s
 done:∀(X:Cx),X.prog=P->X.w=w->X.K=K->rd X->∀(i:Nat) (pins:List (Addr×Obj)) (s:Shared) (σ:St) (H:Hp) (E:Value->Shared->Prop),Inv X pins σ H s->(∀b∈fp,zbD X pins H b)->tn i s.heap->J.stop i H ->
  wpAny (model P w) X.A (pyNext (.ref it)) (fun r s1=>r=none/\Inv X pins σ H s1) E s
 self:∀(A:Around) (i:Nat) (s:Shared) (Q:Value->Shared->Prop) (E:Value->Shared->Prop),tn i s.heap->Q (.ref it) s->wpAny (model P w) A (pyIter (.ref it)) Q E s
abbrev TI:=St->Hp->(It->Hp->Prop)->Prop
def znc (rd:Cx->Prop)(X:Cx)(pins:List (Addr×Obj))(σ:St)(tg:Expr)(R:It->Hp->Prop)(itv:Value)(s2:Shared):Prop :=
 ∃(it:Addr) (fp:List Addr) (tn:Nat->Heap->Prop) (J:It) (H':Hp),itv=.ref it/\Inv X pins σ H' s2/\Turn X.prog X.w X.K tg J fp it tn rd/\tn 0 s2.heap/\(∀b∈fp,zbD X pins H' b)/\R J H'
abbrev PIE:=znc Calm
def PIr (rd:Cx->Prop)(X:Cx)(tg iter:Expr)(wi:TI):Prop :=
 ∀(pins:List (Addr×Obj)) (s:Shared) (σ:St) (H:Hp) (R:It->Hp->Prop),Inv X pins σ H s->wi σ H R ->
  wpAny (model X.prog X.w) X.A (eval iter X.env) (fun v s1=>wpAny (model X.prog X.w) X.A (pyIter v) (znc rd X pins σ tg R) X.xe s1) X.xe s
abbrev PI:=PIr Calm
theorem zef {M:Model}{A:Around}{E:Value->Shared->Prop}{s:Shared}{tg:Expr}{it:Addr}{u:Value}{o:Obj}{n:String}{vs:Array Value}{Q:Unit->Shared->Prop}(ho:s.heap.get? it=some o)(hc:o.cls=.type n)(hd:o.data=.fields vs)
  (hn:["enumerate", "zip", "dict_itemiterator", "dict_reverseitemiterator", "odict_iterator", "itertools.zip_longest", "itertools.pairwise"].contains n=false)(hQ:Q () s):wpAny M A (letOwnedTupleGo tg (.ref it) u) Q E s:=by
 unfold letOwnedTupleGo
 cases tg<;>first
  | exact wpAny_pure hQ
  | (cases u<;>first
    | exact wpAny_pure hQ
    | (refine wpAny_bind (wpAny_load ho ?_)
       rw[hc,hd]
       show wpAny M A (if (["enumerate", "zip", "dict_itemiterator", "dict_reverseitemiterator", "odict_iterator", "itertools.zip_longest", "itertools.pairwise"].contains n&&vs[0]?==some (rawInt _))=true then _ else _) Q E s
       rw[if_neg (by intro h;rw[hn,Bool.false_and] at h;cases h)]
       exact wpAny_pure hQ))
def Itl (K:Frag)(a:Addr):It :=
 ⟨fun i H=>∃xs x,zP K H a xs/\xs[i]?=some x,fun i H x H'=>H'=H/\∀xs,zP K H a xs->xs[i]?=some x,fun i H=>∃xs,zP K H a xs/\xs.length<=i⟩
def Itt (K:Frag)(a:Addr):It :=
 ⟨fun i H=>∃xs x,wY K H a xs/\xs[i]?=some x,fun i H x H'=>H'=H/\∀xs,wY K H a xs->xs[i]?=some x,fun i H=>∃xs,wY K H a xs/\xs.length<=i⟩
def Itr (lo:Int)(n:Nat):It:=⟨fun i _=>i<n,fun i H x H'=>H'=H/\x=.int (lo+i),fun i _=>n<=i⟩
theorem zhE {P:Program}{w:World}{K:Frag}{tg:Expr}(a it:Addr):Turn P w K tg (Itl K a) [it] it (fun i h=>h.IsListIter it a i) where
 mem:=by simp
 obj:=fun i h st b hb=>by
  have e:b=it:=by simpa using hb
  subst e
  obtain⟨o,e,c,d⟩:=st
  exact⟨o,e,fun v z=>by rw[d] at z;cases z⟩
 keep:=fun i h h' st k=>st.at fun o e=>k it (by simp) o e
 item:=by
  intro X hP hw hK hc i pins s σ H E I hf st hg
  subst hP hw hK
  obtain⟨xs,x,hq,hx⟩:=hg
  obtain⟨its,rv,p,hz⟩:=I.list hq
  obtain⟨u,hu,ru⟩:=rv.get hx
  obtain⟨f0,f1,f2,f3,f4,f5⟩:=hf it (by simp)
  refine wpAny_pyNext_list_item st p.isList (x:=u) (by simpa using hu) fun h' st' sb=>?_
  have I1:Inv X pins σ H { s with heap:=h' }:=I.turned (t':=s.toks) (fun b o hb e=>(sb.2 b hb).trans e) f0 f1 f3 f4 f5
  obtain⟨o,e,c,d⟩:=id st'
  exact⟨u,rfl,zef (s:={ s with heap:=h' }) e c d (by decide) ⟨x,H,I1,ru,⟨rfl,fun ys hy=>by rw[I.Wf hy hq];exact hx⟩,st',fun b hb=>(hf b hb).1⟩⟩
 done:=by
  intro X hP hw hK hc i pins s σ H E I hf st hg
  subst hP hw hK
  obtain⟨xs,hq,hx⟩:=hg
  obtain⟨its,rv,p,hz⟩:=I.list hq
  obtain⟨f0,f1,f2,f3,f4,f5⟩:=hf it (by simp)
  have hl:=rv.length
  exact wpAny_pyNext_list_end (I.ok.hd hc) st p.isList (by simp;omega) fun h' eb=>⟨rfl,I.turned (t':=s.toks) (fun b o hb e=>eb b o hb e) f0 f1 f3 f4 f5⟩
 self:=fun _ _ _ _ _ st h=>wpAny_pyIter_listiter st h
theorem zfD {P:Program}{w:World}{K:Frag}{tg:Expr}(a it:Addr):Turn P w K tg (Itt K a) [it] it (fun i h=>h.IsTupleIter it a i) where
 mem:=by simp
 obj:=fun i h st b hb=>by
  have e:b=it:=by simpa using hb
  subst e
  obtain⟨o,e,c,d⟩:=st
  exact⟨o,e,fun v z=>by rw[d] at z;cases z⟩
 keep:=fun i h h' st k=>st.at fun o e=>k it (by simp) o e
 item:=by
  intro X hP hw hK hc i pins s σ H E I hf st hg
  subst hP hw hK
  obtain⟨xs,x,hq,hx⟩:=hg
  obtain⟨its,rv,p,hz⟩:=I.tuple hq
  obtain⟨u,hu,ru⟩:=rv.get hx
  obtain⟨f0,f1,f2,f3,f4,f5⟩:=hf it (by simp)
  refine wpAny_pyNext_tuple_item st (show s.heap.IsTuple a its.toArray from p) (x:=u) (by simpa using hu) fun h' st' sb=>?_
  have I1:Inv X pins σ H { s with heap:=h' }:=I.turned (t':=s.toks) (fun b o hb e=>(sb.2 b hb).trans e) f0 f1 f3 f4 f5
  obtain⟨o,e,c,d⟩:=id st'
  exact⟨u,rfl,zef (s:={ s with heap:=h' }) e c d (by decide) ⟨x,H,I1,ru,⟨rfl,fun ys hy=>by rw[I.zb7 hy hq];exact hx⟩,st',fun b hb=>(hf b hb).1⟩⟩
 done:=by
  intro X hP hw hK hc i pins s σ H E I hf st hg
  subst hP hw hK
  obtain⟨xs,hq,hx⟩:=hg
  obtain⟨its,rv,p,hz⟩:=I.tuple hq
  obtain⟨f0,f1,f2,f3,f4,f5⟩:=hf it (by simp)
  have hl:=rv.length
  exact wpAny_pyNext_tuple_end (I.ok.hd hc) st (show s.heap.IsTuple a its.toArray from p) (by simp;omega) fun h' eb=>⟨rfl,I.turned (t':=s.toks) (fun b o hb e=>eb b o hb e) f0 f1 f3 f4 f5⟩
 self:=fun _ _ _ _ _ st h=>wpAny_pyIter_tupleiter st h
theorem zfE {P:Program}{w:World}{K:Frag}{tg:Expr}(it:Addr)(lo:Int)(n:Nat):Turn P w K tg (Itr lo n) [it] it (fun i h=>IsRangeIter h it (lo+(i:Nat)*1) ((n:Int)-(i:Nat)) 1) where
 mem:=by simp
 obj:=fun i h st b hb=>by
  have e:b=it:=by simpa using hb
  subst e
  exact⟨_,st,fun v z=>by
   have z':Data.fields _=Data.cell v:=z
   cases z'⟩
 keep:=fun i h h' st k=>k it (by simp) _ st
 item:=by
  intro X hP hw hK hc i pins s σ H E I hf st hg
  subst hP hw hK
  obtain⟨f0,f1,f2,f3,f4,f5⟩:=hf it (by simp)
  have W:=Walks.range (prog:=X.prog) (w:=X.w) (I.ok.hd hc) it lo 1 n
  refine W.item i s _ _ hg st fun v h' tk hv st' kk=>?_
  obtain⟨t,rfl⟩:=hv
  have I1:Inv X pins σ H { s with heap:=h',toks:=tk }:=I.turned (fun b o hb e=>kk b o (by simpa using hb) e) f0 f1 f3 f4 f5
  refine⟨_,rfl,zef (s:={ s with heap:=h',toks:=tk }) (n := "range_iterator") st' rfl rfl (by decide) ⟨.int (lo+i),H,I1,⟨t,?_⟩,⟨rfl,rfl⟩,st',fun b hb=>(hf b hb).1⟩⟩
  rw[Int.mul_one]
 done:=by
  intro X hP hw hK hc i pins s σ H E I hf st hg
  subst hP hw hK
  obtain⟨f0,f1,f2,f3,f4,f5⟩:=hf it (by simp)
  exact wpAny_pyNext_range_end (I.ok.hd hc) st (by have:n<=i:=hg;omega) fun h' eb=>⟨rfl,I.turned (t':=s.toks) (fun b o hb e=>eb b o hb e) f0 f1 f3 f4 f5⟩
 self:=fun _ _ _ _ _ st h=>wpAny_pyIter_rangeiter st h
section
variable {X:Cx}{tg:Expr}
def znd (K:Frag)(tl:TE):TI:=fun σ H R=>tl σ H fun x H1=>∃a,x=.ref a/\(∃xs,zP K H1 a xs)/\R (Itl K a) H1
def zoY (K:Frag)(tl:TE):TI:=fun σ H R=>tl σ H fun x H1=>∃a,x=.ref a/\(∃xs,wY K H1 a xs)/\R (Itt K a) H1
theorem yF {l:Expr}{tl:TE}(hl:PE X l tl):PI X tg l (znd X.K tl):=by
 intro pins s σ H R I h
 refine wD (hl pins s σ H _ I h) fun v s1 ⟨x,H1,I1,r1,q1⟩=>?_
 obtain⟨a,e,⟨xs,hq⟩,q⟩:=q1
 subst e
 cases r1
 obtain⟨its,rv,p,hz⟩:=I1.list hq
 refine wpAny_pyIter_list p.isList ?_
 refine⟨s1.heap.objs.size,[s1.heap.objs.size],_,_,H1,rfl,I1.kept (t':=s1.toks) fun b o e=>zti _ e,zhE a _,⟨_,ztx _ rfl,rfl,rfl⟩,fun b hb=>?_,q⟩
 have e:b=s1.heap.objs.size:=by simpa using hb
 subst e
 exact I1.zee (zts _) (I1.hok.fresh (zts _))
theorem zcT {l:Expr}{tl:TE}(hl:PE X l tl):PI X tg l (zoY X.K tl):=by
 intro pins s σ H R I h
 refine wD (hl pins s σ H _ I h) fun v s1 ⟨x,H1,I1,r1,q1⟩=>?_
 obtain⟨a,e,⟨xs,hq⟩,q⟩:=q1
 subst e
 cases r1
 obtain⟨its,rv,p,hz⟩:=I1.tuple hq
 refine wpAny_pyIter_tuple (show s1.heap.IsTuple a its.toArray from p) ?_
 refine⟨s1.heap.objs.size,[s1.heap.objs.size],_,_,H1,rfl,I1.kept (t':=s1.toks) fun b o e=>zti _ e,zfD a _,⟨_,ztx _ rfl,rfl,rfl⟩,fun b hb=>?_,q⟩
 have e:b=s1.heap.objs.size:=by simpa using hb
 subst e
 exact I1.zee (zts _) (I1.hok.fresh (zts _))
theorem zeh {pins:List (Addr×Obj)}{σ:St}{H:Hp}{s:Shared}{R:It->Hp->Prop}{E:Value->Shared->Prop}{lo hi:Int}{t u v:Tok}{tk:Nat}(I:Inv X pins σ H s)(h1:-(2^62)<=lo)(h2:lo<2^62)(h3:-(2^62)<=hi)(h4:hi<2^62)
  (q:R (Itr lo (hi-lo).toNat) H):wpAny (model X.prog X.w) X.A (pyIter (.ref s.heap.objs.size)) (PIE X pins σ tg R) E { s with heap:=s.heap.push { cls:=.type "range", data:=.fields #[.int lo t,.int hi u,.int 1 v] },toks:=tk }:=by
 refine wpAny_pyIter_range (IsRange.new ..) (small_one h1 h2 h3 h4) ?_
 have I1:Inv X pins σ H { s with heap:=s.heap.push { cls:=.type "range", data:=.fields #[.int lo t,.int hi u,.int 1 v] },toks:=tk }:=I.kept fun b o e=>zti _ e
 refine⟨(s.heap.push { cls:=.type "range", data:=.fields #[.int lo t,.int hi u,.int 1 v] }).objs.size,[(s.heap.push { cls:=.type "range", data:=.fields #[.int lo t,.int hi u,.int 1 v] }).objs.size],_,_,H,rfl,
  I1.kept (t':=tk) fun b o e=>zti _ e,zfE _ lo (hi-lo).toNat,?_,fun b hb=>?_,q⟩
 ·have e1:lo+((0:Nat):Int)*1=lo:=by simp
  have e2:(((hi-lo).toNat:Nat):Int)-((0:Nat):Int)=Builtin.Range.rangeSize lo hi 1:=by rw[rangeSize_one];split<;>omega
  show IsRangeIter _ _ (lo+((0:Nat):Int)*1) ((((hi-lo).toNat:Nat):Int)-((0:Nat):Int)) 1
  rw[e1,e2]
  exact ztx _ rfl
 ·have e:b=(s.heap.push { cls:=.type "range", data:=.fields #[.int lo t,.int hi u,.int 1 v] }).objs.size:=by simpa using hb
  subst e
  exact I1.zee (zts _) (I1.hok.fresh (zts _))
def zne (ta:TA):TI:=fun σ H R=>ta σ H fun vs H1=>∃j:Int,vs=[.int j]/\-(2^62)<=j/\j<2^62/\R (Itr 0 j.toNat) H1
def znf (ta:TA):TI:=fun σ H R=>ta σ H fun vs H1=>∃i j:Int,vs=[.int i,.int j]/\(-(2^62)<=i/\i<2^62/\-(2^62)<=j/\j<2^62)/\R (Itr i (j-i).toNat) H1
theorem wZ {a:Expr}{ta:TA}{p pos:Pos}(hg:Gl X "range")(hm:X.mg "range"=none)(ha:PA X [a] ta)(hs:starEach [a] X.env=[(false,eval a X.env)]:=by rfl):PI X tg (.Call (.Name "range" p) [a] [] pos) (zne ta):=by
 intro pins s σ H R I h
 refine Call_ (Wd I hg hm boot_range (PyProof.Rows.callWith_type1 (wD (ha pos pins s σ H _ I h) fun us s1 ⟨vs,H1,I1,r1,q1⟩=>?_) hs rfl))
 obtain⟨j,e,q1,q2,q⟩:=q1
 subst e
 cases r1 with
 | cons r rr =>
  cases rr
  obtain⟨t,rfl⟩:=r
  exact call_range_1 (zeh I1 (by omega) (by omega) q1 q2 (by simpa using q))
theorem zb8 {a b:Expr}{ta:TA}{p pos:Pos}(hg:Gl X "range")(hm:X.mg "range"=none)(ha:PA X [a,b] ta)(hs:starEach [a,b] X.env=[(false,eval a X.env),(false,eval b X.env)]:=by rfl)(hs2:starEach [b] X.env=[(false,eval b X.env)]:=by rfl) :
  PI X tg (.Call (.Name "range" p) [a,b] [] pos) (znf ta):=by
 intro pins s σ H R I h
 refine Call_ (Wd I hg hm boot_range (PyProof.Rows.callWith_type1 (wD (ha pos pins s σ H _ I h) fun us s1 ⟨vs,H1,I1,r1,q1⟩=>?_) (by rw[hs,hs2]) (by rw[hs2];rfl)))
 obtain⟨i,j,e,⟨q1,q2,q3,q4⟩,q⟩:=q1
 subst e
 cases r1 with
 | cons r rr =>
  cases rr with
  | cons r' rr =>
   cases rr
   obtain⟨t,rfl⟩:=r
   obtain⟨t',rfl⟩:=r'
   exact call_range_2 (zeh I1 q1 q2 q3 q4 q)
def zoZ (wi:TI)(g:TG)(tb:TS):TS:=fun D σ H=>wi σ H fun J H1=>∃W:Nat->Nat->St->Hp->Prop,(∃m,W 0 m σ H1)/\∀i m σ H,W i m σ H ->
 (J.stop i H/\D.nx σ H)\/(J.go i H/\∃N:St->Hp->Prop,(∀ σ' H',N σ' H'->∃m',m'<m/\W (i+1) m' σ' H')/\∀x H',J.Qe i H x H'->g x σ H' fun σ2 H2=>tb { D with nx:=N,ct:=N,bk:=D.nx } σ2 H2)
def PK (fp:List Addr)(h:Heap):List (Addr×Obj):=fp.filterMap fun b=>(h.get? b).map fun o=>(b,o)
theorem Ut {fp:List Addr}{h:Heap}{b:Addr}{o:Obj}(hb:b∈fp)(e:h.get? b=some o):(b,o)∈PK fp h:=List.mem_filterMap.mpr ⟨b,hb,by rw[e];rfl⟩
theorem zb9 {fp:List Addr}{h:Heap}{p:Addr×Obj}(hp:p∈PK fp h):p.1∈fp/\h.get? p.1=some p.2:=by
 obtain⟨b,hb,e⟩:=List.mem_filterMap.mp hp
 cases q:h.get? b with
 | none=>rw[q] at e;cases e
 | some o =>
  rw[q] at e
  have e':(b,o)=p:=ztH e
  subst e'
  exact⟨hb,q⟩
theorem Inv.pinned {pins:List (Addr×Obj)}{σ:St}{H:Hp}{s:Shared}{fp:List Addr}(I:Inv X pins σ H s)(hf:∀b∈fp,zbD X pins H b)(ho:∀b∈fp,∃o,s.heap.get? b=some o/\∀v,o.data≠.cell v):Inv X (pins++PK fp s.heap) σ H s :=
 I.Xx fun p hp=>(List.mem_append.mp hp).elim (fun z=>I.pin p (ztt _ z)) fun z=>by
  obtain⟨hb,e⟩:=zb9 z
  obtain⟨f0,f1,f2,_⟩:=hf p.1 hb
  obtain⟨o,e',d⟩:=ho p.1 hb
  rw[e] at e';cases e'
  exact⟨e,f0,f1,f2,d⟩
theorem Inv.zaA {pins pl:List (Addr×Obj)}{σ:St}{H:Hp}{s:Shared}(I:Inv X (pins++pl) σ H s):Inv X pins σ H s:=I.Xx fun p hp=>I.pin p (ztt _ (List.mem_append_left _ hp))
theorem xX {iter:Expr}{body:List Stmt}{wi:TI}{g:TG}{tb:TS}{pos:Pos}(hp:PassesOwn (model X.prog X.w) X.A X.env X.xe)(hc:X.calm=true)(hi:PI X tg iter wi)(hg:PG X tg g)(hb:PSs X body tb)
  (hs:∀x,foldedSetIterable iter X.env x=pure x:=by intro _;rfl):PS X (.For tg iter body [] pos) (zoZ wi g tb):=by
 intro pins s σ H D I h
 refine wpAny_For (wD (hi pins s σ H _ I h) fun v s1 h1=>wD h1 fun itv s2 h2=>?_) hs
 obtain⟨it,fp,tn,J,H2,e,I2,T,st2,f2,W,⟨m0,w0⟩,turn⟩:=h2
 subst e
 have stat:∀{H':Hp},(∀b∈fp,H' b=none)->∀b∈fp,zbD X pins H' b:=fun hn b hb=>⟨hn b hb,(f2 b hb).2⟩
 refine codeAny_forLoop_any (fun n s'=>∃i σ' H',Inv X pins σ' H' s'/\tn i s'.heap/\(∀b∈fp,H' b=none)/\W i n σ' H') ?_ m0 ⟨0,σ,H2,I2,st2,fun b hb=>(f2 b hb).1,w0⟩
 rintro n s3 ⟨i,σ3,H3,I3,st3,fr3,w3⟩
 rcases turn i n σ3 H3 w3 with ⟨stop,qn⟩ | ⟨go,N,hN,step⟩
 ·refine wpAny_passesOwn hp (wD (T.done X rfl rfl rfl hc i pins s3 σ3 H3 X.xe I3 (stat fr3) st3 stop) fun r s4 ⟨hr,I4⟩=>?_)
  subst hr
  exact wpAny_execs_nil ⟨σ3,H3,I4,qn⟩
 ·refine wpAny_passesOwn hp (wD (T.item X rfl rfl rfl hc i pins s3 σ3 H3 X.xe I3 (stat fr3) st3 go) fun r s4 ⟨u,hr,h4⟩=>?_)
  subst hr
  refine wpAny_passesOwn hp (wD h4 fun _ s5 ⟨x,H5,I5,r5,y5,st5,fr5⟩=>?_)
  have I5':=I5.pinned (stat fr5) (T.obj _ _ st5)
  refine wpAny_passesOwn hp (wD (hg _ s5 σ3 H5 x u _ I5' r5 (step x H5 y5)) fun _ s6 ⟨σ6,H6,I6,q6⟩=>?_)
  refine wpAny_passesOwn hp (wD (hb _ s6 σ6 H6 _ I6 q6) fun f s7 q7=>?_)
  have again:∀{σ7:St} {H7:Hp},Inv X (pins++PK fp s5.heap) σ7 H7 s7->N σ7 H7->∃m,m<n/\∃i σ' H',Inv X pins σ' H' s7/\tn i s7.heap/\(∀b∈fp,H' b=none)/\W i m σ' H':=fun {σ7 H7} I7 n7=>by
   obtain⟨m',hm,w7⟩:=hN σ7 H7 n7
   refine⟨m',hm,i+1,σ7,H7,I7.zaA,T.keep _ _ _ st5 fun b hb o e=>(I7.pin (b,o) (ztt _ (ztt _ (Ut hb e)))).1,fun b hb=>?_,w7⟩
   obtain⟨o,e,d⟩:=T.obj _ _ st5 b hb
   exact(I7.pin (b,o) (ztt _ (ztt _ (Ut hb e)))).2.1
  cases f with
  | next=>obtain⟨σ7,H7,I7,n7⟩:=q7;exact again I7 n7
  | cont=>obtain⟨σ7,H7,I7,n7⟩:=q7;exact again I7 n7
  | brk=>obtain⟨σ7,H7,I7,q7⟩:=q7;exact⟨σ7,H7,I7.zaA,q7⟩
  | ret v=>obtain⟨x7,σ7,H7,I7,r7,q7⟩:=q7;exact⟨x7,σ7,H7,I7.zaA,r7,q7⟩
end
theorem vV {K:Frag}{a:Addr}{xs:List V}{g:TG}{tb:TS}{D:Ends}{σ:St}{H:Hp}(Pv:Nat->St->Hp->Prop)(h0:Pv 0 σ H)(hl:∀i σ H,i<=xs.length->Pv i σ H->zP K H a xs)
  (hs:∀i x σ H,xs[i]?=some x->Pv i σ H->g x σ H fun σ2 H2=>tb { D with nx:=Pv (i+1),ct:=Pv (i+1),bk:=D.nx } σ2 H2)(hd:∀ σ H,Pv xs.length σ H->D.nx σ H) :
  ∃W:Nat->Nat->St->Hp->Prop,(∃m,W 0 m σ H)/\∀i m σ H,W i m σ H ->
   ((Itl K a).stop i H/\D.nx σ H)\/((Itl K a).go i H/\∃N:St->Hp->Prop,(∀ σ' H',N σ' H'->∃m',m'<m/\W (i+1) m' σ' H')/\∀x H',(Itl K a).Qe i H x H'->g x σ H' fun σ2 H2=>tb { D with nx:=N,ct:=N,bk:=D.nx } σ2 H2):=by
 refine⟨fun i m σ H=>m=xs.length-i/\i<=xs.length/\Pv i σ H,⟨xs.length,by simp,ztz _,h0⟩,?_⟩
 rintro i m σ H ⟨rfl,hi,p⟩
 have q:=hl i σ H hi p
 by_cases hlt:i<xs.length
 ·refine .inr ⟨⟨xs,xs[i],q,by simp[hlt]⟩,Pv (i+1),fun σ' H' p'=>⟨xs.length-(i+1),by omega,rfl,hlt,p'⟩,fun x H' y=>?_⟩
  obtain⟨e,y⟩:=y
  subst e
  exact hs i x σ _ (y xs q) p
 ·have e:i=xs.length:=by omega
  subst e
  exact .inl ⟨⟨xs,q,zts _⟩,hd σ H p⟩
theorem uU {lo:Int}{n:Nat}{g:TG}{tb:TS}{D:Ends}{σ:St}{H:Hp}(Pv:Nat->St->Hp->Prop)(h0:Pv 0 σ H)
  (hs:∀i σ H,i<n->Pv i σ H->g (.int (lo+i)) σ H fun σ2 H2=>tb { D with nx:=Pv (i+1),ct:=Pv (i+1),bk:=D.nx } σ2 H2)(hd:∀ σ H,Pv n σ H->D.nx σ H) :
  ∃W:Nat->Nat->St->Hp->Prop,(∃m,W 0 m σ H)/\∀i m σ H,W i m σ H ->
   ((Itr lo n).stop i H/\D.nx σ H)\/((Itr lo n).go i H/\∃N:St->Hp->Prop,(∀ σ' H',N σ' H'->∃m',m'<m/\W (i+1) m' σ' H')/\∀x H',(Itr lo n).Qe i H x H'->g x σ H' fun σ2 H2=>tb { D with nx:=N,ct:=N,bk:=D.nx } σ2 H2):=by
 refine⟨fun i m σ H=>m=n-i/\i<=n/\Pv i σ H,⟨n,by simp,ztz _,h0⟩,?_⟩
 rintro i m σ H ⟨rfl,hi,p⟩
 by_cases hlt:i<n
 ·refine .inr ⟨hlt,Pv (i+1),fun σ' H' p'=>⟨n-(i+1),by omega,rfl,hlt,p'⟩,fun x H' y=>?_⟩
  obtain⟨e,y⟩:=y
  subst e y
  exact hs i σ _ hlt p
 ·have e:i=n:=by omega
  subst e
  exact .inl ⟨zts _,hd σ H p⟩
abbrev R2:=V->V->Hp->VK->Prop
def Uu (X:Cx)(f:Value->Value->Sem Value)(r:R2):Prop :=
 ∀(pins:List (Addr×Obj)) (s:Shared) (σ:St) (H:Hp) (x y:V) (v u:Value) (Q:VK),Inv X pins σ H s->RelV x v->RelV y u->r x y H Q ->
  wpAny (model X.prog X.w) X.A (f v u) (EP X pins σ Q) X.xe s
def UnR (X:Cx)(f:Value->Sem Value)(r:V->Hp->VK->Prop):Prop :=
 ∀(pins:List (Addr×Obj)) (s:Shared) (σ:St) (H:Hp) (x:V) (v:Value) (Q:VK),Inv X pins σ H s->RelV x v->r x H Q ->
  wpAny (model X.prog X.w) X.A (f v) (EP X pins σ Q) X.xe s
def ZK (X:Cx)(f:Value)(r:List V->Hp->VK->Prop):Prop :=
 ∀(pins:List (Addr×Obj)) (s:Shared) (σ:St) (H:Hp) (xs:List V) (us:List Value) (Q:VK),Inv X pins σ H s->Vals xs us->r xs H Q ->
  wpAny (model X.prog X.w) X.A (call f us) (EP X pins σ Q) X.xe s
def zo2 (X:Cx)(r:V->Hp->(Bool->Hp->Prop)->Prop):Prop :=
 ∀(pins:List (Addr×Obj)) (s:Shared) (σ:St) (H:Hp) (x:V) (v:Value) (Q:Bool->Hp->Prop),Inv X pins σ H s->RelV x v->r x H Q ->
  wpAny (model X.prog X.w) X.A (truthy v) (TP X pins σ Q) X.xe s
def tOp (r:R2)(ta tb:TE):TE:=fun σ H Q=>ta σ H fun x H1=>tb σ H1 fun y H2=>r x y H2 Q
def tUn (r:V->Hp->VK->Prop)(ta:TE):TE:=fun σ H Q=>ta σ H fun x H1=>r x H1 Q
def rI (C:Int->Int->Prop)(g:Int->Int->V):R2:=fun x y H Q=>∃i j,x=.int i/\y=.int j/\C i j/\Q (g i j) H
def rI0 (g:Int->Int->V):R2:=fun x y H Q=>∃i j,x=.int i/\y=.int j/\Q (g i j) H
def rU (g:Int->V):V->Hp->VK->Prop:=fun x H Q=>∃i,x=.int i/\Q (g i) H
section
variable {X:Cx}{a b c:Expr}{ta tb tc:TE}{pos:Pos}
theorem zl5 (ha:PE X a ta)(hb:PE X b tb){pins:List (Addr×Obj)}{s:Shared}{σ:St}{H:Hp}{R:V->V->Hp->Prop}(I:Inv X pins σ H s)
  (h:ta σ H fun x H1=>tb σ H1 fun y H2=>R x y H2){Q:Value->Shared->Prop}{f:Value->Value->Sem Value}
  (hf:∀v u s2 x y H2,Inv X pins σ H2 s2->RelV x v->RelV y u->R x y H2->wpAny (model X.prog X.w) X.A (f v u) Q X.xe s2) :
  wpAny (model X.prog X.w) X.A (eval a X.env) (fun v s₁=>wpAny (model X.prog X.w) X.A (eval b X.env) (fun u s₂=>wpAny (model X.prog X.w) X.A (f v u) Q X.xe s₂) X.xe s₁) X.xe s:=by
 refine wD (ha pins s σ H _ I h) fun v s1 ⟨x,H1,I1,r1,q1⟩=>?_
 refine wD (hb pins s1 σ H1 _ I1 q1) fun u s2 ⟨y,H2,I2,r2,q2⟩=>?_
 exact hf v u s2 x y H2 I2 r1 r2 q2
theorem zK {op:Operator}{r:R2}(ho:Uu X (binaryOp op) r)(ha:PE X a ta)(hb:PE X b tb):PE X (.BinOp a op b pos) (tOp r ta tb):=by
 intro pins s σ H Q I h
 exact wpAny_BinOp (zl5 ha hb I h fun v u s2 x y H2 I2 rx ry q=>ho pins s2 σ H2 x y v u Q I2 rx ry q)
theorem zis {op:UnaryOp}{r:V->Hp->VK->Prop}(ho:UnR X (unaryOp op) r)(ha:PE X a ta):PE X (.UnaryOp op a pos) (tUn r ta):=by
 intro pins s σ H Q I h
 exact UnaryOp_ (wD (ha pins s σ H _ I h) fun v s1 ⟨x,H1,I1,r1,q1⟩=>ho pins s1 σ H1 x v Q I1 r1 q1)
theorem opI {f:Value->Value->Sem Value}{C:Int->Int->Prop}{g:Int->Int->Int}
  (rule:∀(i j:Int) (t u:Tok) (s:Shared) (Q:Value->Shared->Prop) (E:Value->Shared->Prop),C i j->Q (.int (g i j) s.toks) { s with toks:=s.toks+1 }->wpAny (model X.prog X.w) X.A (f (.int i t) (.int j u)) Q E s) :
  Uu X f (rI C fun i j=>.int (g i j)):=by
 intro pins s σ H x y v u Q I rx ry h
 obtain⟨i,j,rfl,rfl,hc,q⟩:=h
 obtain⟨t,rfl⟩:=rx
 obtain⟨t',rfl⟩:=ry
 exact rule i j t t' s _ _ hc ⟨.int (g i j),H,I.tok _,⟨_,rfl⟩,q⟩
theorem zhF {f:Value->Value->Sem Value}{g:Int->Int->Int}
  (rule:∀(i j:Int) (t u:Tok) (s:Shared) (Q:Value->Shared->Prop) (E:Value->Shared->Prop),Q (.int (g i j) s.toks) { s with toks:=s.toks+1 }->wpAny (model X.prog X.w) X.A (f (.int i t) (.int j u)) Q E s) :
  Uu X f (rI0 fun i j=>.int (g i j)):=by
 intro pins s σ H x y v u Q I rx ry h
 obtain⟨i,j,rfl,rfl,q⟩:=h
 obtain⟨t,rfl⟩:=rx
 obtain⟨t',rfl⟩:=ry
 exact rule i j t t' s _ _ ⟨.int (g i j),H,I.tok _,⟨_,rfl⟩,q⟩
theorem zl6 {f:Value->Value->Sem Value}{g:Int->Int->Bool}
  (rule:∀(i j:Int) (t u:Tok) (s:Shared) (Q:Value->Shared->Prop) (E:Value->Shared->Prop),Q (.bool (g i j)) s->wpAny (model X.prog X.w) X.A (f (.int i t) (.int j u)) Q E s) :
  Uu X f (rI0 fun i j=>.bl (g i j)):=by
 intro pins s σ H x y v u Q I rx ry h
 obtain⟨i,j,rfl,rfl,q⟩:=h
 obtain⟨t,rfl⟩:=rx
 obtain⟨t',rfl⟩:=ry
 exact rule i j t t' s _ _ ⟨.bl (g i j),H,I,rfl,q⟩
def zo3 (i j:Int):Prop:=0<j/\j<1073741824
def zo4 (i j:Int):Prop:=0<=j/\j<=1000000/\i.natAbs<2^64
def zl7 (i j:Int):Prop:=(-(2^64)<i/\i<2^64)\/(-(2^64)<j/\j<2^64)
theorem zl7.ok {i j:Int}(h:zl7 i j):IntMulOk i j:=by
 rcases h with ⟨h1,h2⟩ | ⟨h1,h2⟩
 ·exact .of_left (intBits_le_64 h1 h2)
 ·exact .of_right (intBits_le_64 h1 h2)
theorem zfF (k:Nat):(0:Int)<=2^k:=by
 rw[two_pow_cast]
 exact Int.natCast_nonneg _
theorem xH:Uu X (binaryOp .Add) (rI0 fun i j=>.int (i+j)):=zhF fun _ _ _ _ _ _ _ q=>add_int q
theorem Kc:Uu X (binaryOp .Sub) (rI0 fun i j=>.int (i-j)):=zhF fun _ _ _ _ _ _ _ q=>sub_int q
theorem Kd:Uu X (binaryOp .Mult) (rI zl7 fun i j=>.int (i*j)):=opI fun _ _ _ _ _ _ _ hc q=>mul_int q hc.ok
theorem zgK:Uu X (binaryOp .FloorDiv) (rI zo3 fun i j=>.int (i / j)):=opI fun i j _ _ _ _ _ hc q=>by
 have h1:(0:Int)<j:=hc.1
 have h2:j<1073741824:=hc.2
 exact floordiv_int (by omega) (by rw[Int.fdiv_eq_ediv_of_nonneg i (by omega)];exact q) (.inl (PyProof.noPylong_small (by omega)))
theorem wQ:Uu X (binaryOp .Mod) (rI (fun _ j=>0<j) fun i j=>.int (i%j)):=opI fun i j _ _ _ _ _ hc q=>by
 have h1:(0:Int)<j:=hc
 exact mod_int' (by omega) (by rw[Int.fmod_eq_emod_of_nonneg i (by omega)];exact q)
theorem zit:Uu X (binaryOp .Pow) (rI zo4 fun i j=>.int (i^j.toNat)):=opI fun _ _ _ _ _ _ _ hc q=>pow_int_small hc.1 hc.2.1 hc.2.2 q
theorem zl8:Uu X (binaryOp .RShift) (rI (fun _ j=>0<=j) fun i j=>.int (i / 2^j.toNat)):=opI fun i j _ _ _ _ _ hc q =>
 rshift_int hc (by rw[Int.fdiv_eq_ediv_of_nonneg i (zfF _)];exact q)
theorem zl9:Uu X (binaryOp .BitAnd) (rI0 fun i j=>.int (Builtin.bitAnd i j)):=zhF fun _ _ _ _ _ _ _ q=>and_int q
theorem znh:Uu X (binaryOp .BitOr) (rI0 fun i j=>.int (Builtin.bitOr i j)):=zhF fun _ _ _ _ _ _ _ q=>or_int q
theorem zma:Uu X (binaryOp .BitXor) (rI0 fun i j=>.int (Builtin.bitXor i j)):=zhF fun _ _ _ _ _ _ _ q=>xor_int q
theorem zcU:Uu X (inplaceOp .Add) (rI0 fun i j=>.int (i+j)):=zhF fun _ _ _ _ _ _ _ q=>iadd_int q
theorem unI {f:Value->Sem Value}{g:Int->Int}
  (rule:∀(i:Int) (t:Tok) (s:Shared) (Q:Value->Shared->Prop) (E:Value->Shared->Prop),Q (.int (g i) s.toks) { s with toks:=s.toks+1 }->wpAny (model X.prog X.w) X.A (f (.int i t)) Q E s) :
  UnR X f (rU fun i=>.int (g i)):=by
 intro pins s σ H x v Q I rx h
 obtain⟨i,rfl,q⟩:=h
 obtain⟨t,rfl⟩:=rx
 exact rule i t s _ _ ⟨.int (g i),H,I.tok _,⟨_,rfl⟩,q⟩
theorem zfG:UnR X (unaryOp .USub) (rU fun i=>.int (-i)):=unI fun _ _ _ _ _ q=>neg_int q
end
def zhG:V->V->Bool
 | .non,.non=>true | .non,.int _=>true | .int _,.non=>true | .non,.bl _=>true | .bl _,.non=>true | .non,.str _=>true | .str _,.non=>true
 | .int _,.int _=>true | .bl _,.bl _=>true | .str _,.str _=>true | .byt _,.byt _=>true
 | .int _,.str _=>true | .str _,.int _=>true | .bl _,.str _=>true | .str _,.bl _=>true
 | _,_=>false
def rEq:R2:=fun x y H Q=>zhG x y=true/\Q (.bl (decide (x=y))) H
def rNe:R2:=fun x y H Q=>zhG x y=true/\Q (.bl (!decide (x=y))) H
theorem zgL {i j:Int}:decide (V.int i=V.int j)=(i==j):=by
 rw[ztS]
 simp
theorem ziu {i j:Bool}:decide (V.bl i=V.bl j)=(i==j):=by
 rw[ztS]
 simp
theorem zgM {i j:Str}:decide (V.str i=V.str j)=(i==j):=by
 rw[ztS]
 simp
theorem zgN {i j:Array UInt8}:decide (V.byt i=V.byt j)=(i.toList==j.toList):=by
 rw[ztS]
 cases i
 cases j
 simp
section
variable {X:Cx}{a b c:Expr}{ta tb tc:TE}{pos:Pos}
theorem yS {pins:List (Addr×Obj)}{σ:St}{H:Hp}{s:Shared}{Q:VK}{k k':Bool}(I:Inv X pins σ H s)(q:Q (.bl k) H)(e:k=k'):EP X pins σ Q (.bool k') s:=by
 subst e
 exact⟨.bl k,H,I,rfl,q⟩
theorem yH:Uu X (compareOp .Eq) rEq:=by
 intro pins s σ H x y v u Q I rx ry h
 obtain⟨hs,q⟩:=h
 cases x with
 | non =>
  cases rx
  cases y with
  | non=>cases ry;exact PySem.EqNone.eq_none_none (yS I q (by simp))
  | bl j=>cases ry;exact PySem.EqNone.eq_none_bool (yS I q (by simp))
  | int j=>obtain⟨t',rfl⟩:=ry;exact PySem.EqNone.eq_none_int (yS I q (by simp))
  | str j=>obtain⟨t',rfl⟩:=ry;exact PySem.EqNone.eq_none_str (yS I q (by simp))
  | _=>exact absurd (show false=true from hs) ztg
 | bl i =>
  cases rx
  cases y with
  | non=>cases ry;exact PySem.EqNone.eq_bool_none (yS I q (by simp))
  | bl j=>cases ry;exact eq_bool (yS I q ziu)
  | str j=>obtain⟨t',rfl⟩:=ry;exact PySem.EqMixed.eq_bool_str (yS I q (by simp))
  | _=>exact absurd (show false=true from hs) ztg
 | int i =>
  obtain⟨t,rfl⟩:=rx
  cases y with
  | non=>cases ry;exact PySem.EqNone.eq_int_none (yS I q (by simp))
  | int j=>obtain⟨t',rfl⟩:=ry;exact eq_int (yS I q zgL)
  | str j=>obtain⟨t',rfl⟩:=ry;exact PySem.EqMixed.eq_int_str (yS I q (by simp))
  | _=>exact absurd (show false=true from hs) ztg
 | str i =>
  obtain⟨t,rfl⟩:=rx
  cases y with
  | non=>cases ry;exact PySem.EqNone.eq_str_none (yS I q (by simp))
  | bl j=>cases ry;exact PySem.EqMixed.eq_str_bool (yS I q (by simp))
  | int j=>obtain⟨t',rfl⟩:=ry;exact PySem.EqMixed.eq_str_int (yS I q (by simp))
  | str j=>obtain⟨t',rfl⟩:=ry;exact eq_str (yS I q zgM)
  | _=>exact absurd (show false=true from hs) ztg
 | byt i =>
  obtain⟨t,rfl⟩:=rx
  cases y with
  | byt j=>obtain⟨t',rfl⟩:=ry;exact PySem.W.eq_bytes (yS I q zgN)
  | _=>exact absurd (show false=true from hs) ztg
 | _=>cases y<;>exact absurd (show false=true from hs) ztg
theorem TV:Uu X (compareOp .NotEq) rNe:=by
 intro pins s σ H x y v u Q I rx ry h
 obtain⟨hs,q⟩:=h
 cases x with
 | non =>
  cases rx
  cases y with
  | non=>cases ry;exact PySem.EqNone.ne_none_none (yS I q (by simp))
  | bl j=>cases ry;exact PySem.EqNone.ne_none_bool (yS I q (by simp))
  | int j=>obtain⟨t',rfl⟩:=ry;exact PySem.EqNone.ne_none_int (yS I q (by simp))
  | str j=>obtain⟨t',rfl⟩:=ry;exact PySem.EqNone.ne_none_str (yS I q (by simp))
  | _=>exact absurd (show false=true from hs) ztg
 | bl i =>
  cases rx
  cases y with
  | non=>cases ry;exact PySem.EqNone.ne_bool_none (yS I q (by simp))
  | bl j=>cases ry;exact ne_bool (yS I q (congrArg not ziu))
  | str j=>obtain⟨t',rfl⟩:=ry;exact PySem.EqMixed.ne_bool_str (yS I q (by simp))
  | _=>exact absurd (show false=true from hs) ztg
 | int i =>
  obtain⟨t,rfl⟩:=rx
  cases y with
  | non=>cases ry;exact PySem.EqNone.ne_int_none (yS I q (by simp))
  | int j=>obtain⟨t',rfl⟩:=ry;exact ne_int (yS I q (congrArg not zgL))
  | str j=>obtain⟨t',rfl⟩:=ry;exact PySem.EqMixed.ne_int_str (yS I q (by simp))
  | _=>exact absurd (show false=true from hs) ztg
 | str i =>
  obtain⟨t,rfl⟩:=rx
  cases y with
  | non=>cases ry;exact PySem.EqNone.ne_str_none (yS I q (by simp))
  | bl j=>cases ry;exact PySem.EqMixed.ne_str_bool (yS I q (by simp))
  | int j=>obtain⟨t',rfl⟩:=ry;exact PySem.EqMixed.ne_str_int (yS I q (by simp))
  | str j=>obtain⟨t',rfl⟩:=ry;exact ne_str (yS I q (congrArg not zgM))
  | _=>exact absurd (show false=true from hs) ztg
 | byt i =>
  obtain⟨t,rfl⟩:=rx
  cases y with
  | byt j=>obtain⟨t',rfl⟩:=ry;exact PySem.W.ne_bytes (yS I q (congrArg not zgN))
  | _=>exact absurd (show false=true from hs) ztg
 | _=>cases y<;>exact absurd (show false=true from hs) ztg
theorem zgO:Uu X (compareOp .Lt) (rI0 fun i j=>.bl (decide (i<j))):=zl6 fun _ _ _ _ _ _ _ q=>lt_int q
theorem Yq:Uu X (compareOp .Gt) (rI0 fun i j=>.bl (decide (j<i))):=zl6 fun _ _ _ _ _ _ _ q=>gt_int q
theorem zlt:Uu X (compareOp .GtE) (rI0 fun i j=>.bl (decide (j<=i))):=zl6 fun _ _ _ _ _ _ _ q=>ge_int q
theorem zM (b:Expr){op:CmpOp}(h:op≠.In:=by decide)(h2:op≠.NotIn:=by decide):behindInMarks op b=false:=by
 have e1:(op==CmpOp.In)=false:=by cases op<;>first | rfl | exact absurd rfl h
 have e2:(op==CmpOp.NotIn)=false:=by cases op<;>first | rfl | exact absurd rfl h2
 cases b<;>simp[behindInMarks,e1,e2]
theorem xK {op:CmpOp}{r:R2}(ho:Uu X (compareOp op) r)(ha:PE X a ta)(hb:PE X b tb)(hm:behindInMarks op b=false):PE X (.Compare a [op] [b] pos) (tOp r ta tb):=by
 intro pins s σ H Q I h
 exact wpAny_Compare1 (zl5 ha hb I h fun v u s2 x y H2 I2 rx ry q=>ho pins s2 σ H2 x y v u Q I2 rx ry q) hm
inductive zhH (x:V)(k:Bool->Prop):Prop
 | mk (c:Bool) (_:x=.bl c) (_:k c):zhH x k
def zni (t:TE):TT:=fun σ H Q=>t σ H fun x H'=>zhH x fun k=>Q k H'
theorem zJ {op:CmpOp}{r:R2}(ho:Uu X (compareOp op) r)(ha:PE X a ta)(hb:PE X b tb)(hm:behindInMarks op b=false):PT X (.Compare a [op] [b] pos) (zni (tOp r ta tb)):=by
 intro pins s σ H Q I h
 refine wpAny_isTrue_Compare1 (wD (ha pins s σ H _ I h) fun v s1 ⟨x,H1,I1,r1,q1⟩=>wD (hb pins s1 σ H1 _ I1 q1) fun u s2 ⟨y,H2,I2,r2,q2⟩ =>
  wD (ho pins s2 σ H2 x y v u _ I2 r1 r2 q2) fun c s3 ⟨z,H3,I3,r3,k,e,q3⟩=>?_) hm
 subst e
 cases r3
 exact wpAny_truthy_bool ⟨H3,I3,q3⟩
def ziv (K:Frag)(x:V)(H:Hp)(k:Bool):Prop :=
 match x with
 | .non=>k=false
 | .bl b=>k=b
 | .int i=>k=(i != 0)
 | .str y=>y.length<=sizeLine/\k=((y.length:Int) != 0)
 | .byt y=>y.size<=sizeLine/\k=((y.size:Int) != 0)
 | .ref p=>(∃xs,zP K H p xs/\k=!xs.isEmpty)\/(∃xs,wY K H p xs/\k=!xs.isEmpty)\/∃kvs,H p=some (.dK kvs)/\k=!kvs.isEmpty
 | _=>False
theorem zfH {κ:Type}{kvs:List (κ×V)}{vs:List (κ×Value)}(r:KV kvs vs):(!vs.isEmpty)=!kvs.isEmpty:=by
 cases r<;>rfl
theorem zaB {xs:List V}{its:List Value}(r:Vals xs its):(!its.toArray.isEmpty)=!xs.isEmpty:=by
 cases r<;>simp
theorem Uv:(sizeLine:Nat)<2^63:=by rw[sizeLine_eq];decide
theorem zmb:zo2 X (fun x H Q=>∃k,ziv X.K x H k/\Q k H):=by
 intro pins s σ H x v Q I rx h
 obtain⟨k,e,q⟩:=h
 have hl:=Uv
 have hs:sizeLine=16777216:=sizeLine_eq
 cases x with
 | non =>
  cases rx
  have e':k=false:=e
  subst e'
  exact truthy_none ⟨H,I,q⟩
 | bl b =>
  cases rx
  have e':k=b:=e
  subst e'
  exact wpAny_truthy_bool ⟨H,I,q⟩
 | int i =>
  obtain⟨t,rfl⟩:=rx
  have e':k=(i != 0):=e
  subst e'
  exact PySem.P.truthy_int ⟨H,I,q⟩
 | str y =>
  obtain⟨t,rfl⟩:=rx
  obtain⟨hy,e'⟩:y.length<=sizeLine/\k=((y.length:Int) != 0):=e
  subst e'
  exact PySem.P.truthy_str (by omega) ⟨H,I.tok _,q⟩
 | byt y =>
  obtain⟨t,rfl⟩:=rx
  obtain⟨hy,e'⟩:y.size<=sizeLine/\k=((y.size:Int) != 0):=e
  subst e'
  exact PySem.W.truthy_bytes (by omega) ⟨H,I.tok _,q⟩
 | ref p =>
  cases rx
  have e':(∃xs,zP X.K H p xs/\k=!xs.isEmpty)\/(∃xs,wY X.K H p xs/\k=!xs.isEmpty)\/∃kvs,H p=some (.dK kvs)/\k=!kvs.isEmpty:=e
  rcases e' with ⟨xs,hx,e'⟩ | ⟨xs,hx,e'⟩ | ⟨kvs,hx,e'⟩
  ·subst e'
   obtain⟨its,r,pl,hz⟩:=I.list hx
   have hlen:=r.length
   exact wpAny_truthy_list pl.isList (by simp only[ztm];omega) ⟨H,I.tok _,by rw[zaB r];exact q⟩
  ·subst e'
   obtain⟨its,r,pl,hz⟩:=I.tuple hx
   have hlen:=r.length
   exact truthy_tuple pl (by simp only[ztm];omega) ⟨H,I.tok _,by rw[zaB r];exact q⟩
  ·subst e'
   obtain⟨hz,hS,vs,r,m⟩:kvs.length<=sizeLine/\(p==sysModules)=false/\∃vs,KV kvs vs/\s.heap.DictOf (yx X.prog X.w) p vs:=I.hok p _ hx
   have hlen:kvs.length=vs.length:=Paired.length r
   exact wpAny_truthy_dict hS m (by omega) ⟨H,I.tok _,by rw[zfH r];exact q⟩
 | _=>exact(show False from e).elim
theorem xU (ha:PE X a ta)(he:∀whole,isTrue a X.env whole=(do let v <-whole;standAt a.pos;holding [v] (truthy v))) :
  PT X a (fun σ H Q=>ta σ H fun x H'=>∃k,ziv X.K x H' k/\Q k H'):=by
 intro pins s σ H Q I h
 exact isTrue_plain (wD (ha pins s σ H _ I h) fun v s1 ⟨x,H1,I1,r1,q1⟩=>zmb pins s1 σ H1 x v Q I1 r1 q1) (he _)
theorem wu:Uu X (binaryOp .Add) (fun x y H Q=>∃i j,x=.str i/\y=.str j/\i.length+j.length<=sizeLine/\Q (.str (i++j)) H):=by
 intro pins s σ H x y v u Q I rx ry h
 obtain⟨i,j,rfl,rfl,hz,q⟩:=h
 obtain⟨t,rfl⟩:=rx
 obtain⟨t',rfl⟩:=ry
 exact add_str (fun t' tk=>⟨.str (i++j),H,I.tok _,⟨_,rfl⟩,q⟩) hz
theorem vals1 {x:V}{us:List Value}(r:Vals [x] us):∃u,us=[u]/\RelV x u:=by
 cases r with
 | cons r1 r2=>cases r2;exact⟨_,rfl,r1⟩
theorem vals2 {x y:V}{us:List Value}(r:Vals [x,y] us):∃u w',us=[u,w']/\RelV x u/\RelV y w':=by
 cases r with
 | cons r1 r2 =>
  cases r2 with
  | cons r3 r4=>cases r4;exact⟨_,_,rfl,r1,r3⟩
theorem V1 (hc:X.calm=true):ZK X (.builtin "max") (fun xs H Q=>∃i j,xs=[.int i,.int j]/\Q (.int (if j > i then j else i)) H):=by
 intro pins s σ H xs us Q I r h
 obtain⟨i,j,rfl,q⟩:=h
 obtain⟨u,w',rfl,⟨t,rfl⟩,⟨t',rfl⟩⟩:=vals2 r
 refine max_two_ints (I.ok.hd hc) fun h' tk k=>⟨_,H,I.kept k,?_,q⟩
 by_cases hj:j > i
 ·rw[if_pos hj,if_pos hj];exact⟨_,rfl⟩
 ·rw[if_neg hj,if_neg hj];exact⟨_,rfl⟩
theorem zhI (hc:X.calm=true):ZK X (.builtin "min") (fun xs H Q=>∃i j,xs=[.int i,.int j]/\Q (.int (if j<i then j else i)) H):=by
 intro pins s σ H xs us Q I r h
 obtain⟨i,j,rfl,q⟩:=h
 obtain⟨u,w',rfl,⟨t,rfl⟩,⟨t',rfl⟩⟩:=vals2 r
 refine min_two_ints (I.ok.hd hc) fun h' tk k=>⟨_,H,I.kept k,?_,q⟩
 by_cases hj:j<i
 ·rw[if_pos hj,if_pos hj];exact⟨_,rfl⟩
 ·rw[if_neg hj,if_neg hj];exact⟨_,rfl⟩
theorem Ke:ZK X (.type "int") (fun xs H Q=>(∃i,xs=[.int i]/\Q (.int i) H)\/∃k,xs=[.bl k]/\Q (.int (if k then 1 else 0)) H):=by
 intro pins s σ H xs us Q I r h
 rcases h with ⟨i,rfl,q⟩ | ⟨k,rfl,q⟩
 ·obtain⟨u,rfl,t,rfl⟩:=vals1 r
  exact call_int_int ⟨.int i,H,I,⟨_,rfl⟩,q⟩
 ·obtain⟨u,rfl,r1⟩:=vals1 r
  cases r1
  exact call_int_bool ⟨.int (if k then 1 else 0),H,I.tok _,⟨_,rfl⟩,q⟩
end
structure zfI (h:Heap)(x dx C:Addr)(mA:Str->Option Value):Prop where
 obj:h.get? x=some (PySem.W.instObj C dx)
 ns:h.Ns1 dx mA
 ne:dx≠x
theorem zhJ {h:Heap}{dx:Addr}{mA:Str->Option Value}(n:h.Ns1 dx mA):∃od,h.get? dx=some od/\∀name,PySem.W.lookIn name od=some (mA name):=by
 obtain⟨o,es,ep,ho,hd,hk,_,hm⟩:=n
 refine⟨o,ho,fun name=>?_⟩
 have e:=hm name
 unfold nsFind findBy at e
 rw[<-Array.find?_toList] at e
 unfold PySem.W.lookIn
 rw[hd]
 dsimp only
 split
 ·rename_i y q
  rw[q] at e
  exact congrArg some e
 ·rename_i q
  rw[q] at e
  have a:es.toList.any (·.refKey)=false:=by
   rw[List.any_eq_false]
   intro y hy
   obtain⟨z,t,hkey⟩:=hk y (Array.mem_toList_iff.mp hy)
   simp[DictEntry.refKey,hkey]
  have a':¬es.toList.any (·.refKey)=true:=by rw[a];exact ztg
  rw[if_neg a']
  exact congrArg some e
theorem zfI.look {h:Heap}{x dx C:Addr}{mA:Str->Option Value}(I:zfI h x dx C mA):∃od,PySem.W.InstAt h x (PySem.W.instObj C dx) C (some od)/\∀name,PySem.W.lookIn name od=some (mA name) :=
 let ⟨od,ho,hl⟩:=zhJ I.ns
 ⟨od,⟨I.obj,rfl,rfl,ho⟩,hl⟩
section
variable {prog:Program}{w:World}{A:Around}{E:Value->Shared->Prop}{s:Shared}{K:Frag}{x dx C f:Addr}{mA:Str->Option Value}{name:Str}{v:Value}
theorem get_map {expr:Bool}{Q:Value->Shared->Prop}(X:K.In s.heap)(I:zfI s.heap x dx C mA)(hg:PySem.W.plainGet K C name=true)(hh:PySem.W.hasDictIn K C=true)
  (ha:findIn K (.ref C) name=some none)(hv:mA name=some v)(hv':PySem.W.handedIn v=true)(h:Q v { s with toks:=s.toks+1 }) :
  wpAny (model prog w) A (getAttr (.ref x) name expr) Q E s:=by
 obtain⟨od,J,hl⟩:=I.look
 exact PySem.W.get_value X J (PySem.W.plainGet_of hg).1 (PySem.W.findObj_own hh ha rfl (by rw[hl,hv])) hv' h
theorem ziw {pl:Sem Bool}{Q:Value×List Value->Shared->Prop}(X:K.In s.heap)(I:zfI s.heap x dx C mA)(hg:PySem.W.plainGet K C name=true)
  (hf:findIn K (.ref C) name=some (some (.ref f)))(ht:PySem.W.isFn K (.ref f)=true)(hv:mA name=none)(h:Q (.ref f,[.ref x]) s) :
  wpAny (model prog w) A (getMethod (.ref x) name pl) Q E s:=by
 obtain⟨od,J,hl⟩:=I.look
 exact PySem.W.method_fn X J (PySem.W.plainGet_of hg).1 (PySem.W.plainGet_of hg).2 hf (beq_iff_eq.mp ht) (by show(PySem.W.lookIn name od).map (·.isSome)=some false;rw[hl,hv];rfl) h
theorem zj8 {ns:List Str}{Q:Unit->Shared->Prop}(X:K.In s.heap)(I:zfI s.heap x dx C mA)
  (hs:findIn K (.ref C) "__setattr__"=some (some (.builtin "object.__setattr__")))(hp:PySem.W.plainOver K C=true)(ht:PySem.W.takerIn K C name=some none)(hh:PySem.W.hasDictIn K C=true)
  (hw:PySem.Within mA ns)(hsz:ns.length<=sizeLine)
  (h:∀h',zfI h' x dx C (fun y=>if y=name then some v else mA y)->Heap.SameBut dx s.heap h'->Q () { s with heap:=h',toks:=s.toks+2 }) :
  wpAny (model prog w) A (setAttr (.ref x) name v) Q E s:=by
 obtain⟨od,J,hl⟩:=I.look
 refine PySem.W.set_plain X J hs (PySem.W.osa_open (s:={ s with toks:=s.toks+1 }) (r:=none) X J hp ht fun b=>?_)
 obtain⟨cd,hc,hd'⟩:=PySem.W.any_some hh
 have hx:s.heap.get? x=some ⟨.ref C,some dx,.plain,#[]⟩:=I.obj
 refine wpAny_bind (wpAny_pure (wpAny_bind (wpAny_bind (wpAny_loadPart hx (wpAny_bind (PySem.W.Looks.here (s:={ s with toks:=s.toks+1 }) (PySem.W.looks_clsIn X hc) ?_))))))
 rw[hd']
 refine wpAny_pure (a:=some dx) (wpAny_bind (wpAny_pure (wpAny_bind ?_)))
 refine wpAny_nsSet1 (s:={ s with toks:=s.toks+1 }) I.ns fun h' hn2 hs2=>?_
 obtain⟨oD,esD,epD,hoD,hdD,hcD⟩:=hn2.count (PySem.Within.cons name v hw)
 refine wpAny_bind (wpAny_lookBehind hoD (by rw[hdD];exact pastItsLine_dict (zty hcD (by rw[zto];omega))) ?_)
 exact wpAny_pure (h _ ⟨(hs2.2 _ (Ne.symm I.ne)).trans I.obj,hn2,I.ne⟩ hs2)
theorem zix {R:Result->Shared->Prop}{vs:List Value}{kw:List (Str×Value)}(X:K.In s.heap)(hm:PySem.W.makesIn K C=true)
  (hi:findIn K (.ref C) "__init__"=some (some (.ref f)))(hf:PySem.W.typeIn K (.ref f)=some (.type "function"))
  (h:codeAny (model prog w) (A.under (.builtin "type.__call__" ⟨.ref C::vs,kw⟩)) (.call (.ref f) ⟨.ref (s.heap.objs.size+1)::vs,kw⟩) (PySem.W.InitBack (s.heap.objs.size+1) R)
   {s with heap:=(s.heap.push PySem.W.emptyDict).push (PySem.W.instObj C s.heap.objs.size) }) :
  codeAny (model prog w) A (.call (.ref C) ⟨vs,kw⟩) R s:=by
 obtain⟨hh,g,d,t,os⟩:=s
 exact PySem.W.make_core (PySem.W.makes_of X hm) (PySem.W.looks_findIn X hi) (fun self=>PySem.W.bind_fn X self hf) (.inl rfl) h
end
def Yr (f:Str)(v:V):List (Str×V)->List (Str×V)
 | []=>[(f,v)]
 | (g,x)::r=>if g=f then (g,v)::r else (g,x)::Yr f v r
theorem Jc (f g:Str)(v:V):∀fs:List (Str×V),(Yr f v fs).lookup g=if g=f then some v else fs.lookup g
 | []=>by
  show List.lookup g [(f,v)]=_
  by_cases h:g=f
  ·have hb:(g==f)=true:=beq_iff_eq.mpr h
   simp only[List.lookup,hb,if_pos h]
  ·have hb:(g==f)=false:=beq_eq_false_iff_ne.mpr h
   simp only[List.lookup,hb,if_neg h]
 | (k,x)::r=>by
  have ih:=Jc f g v r
  rw[show Yr f v ((k,x)::r)=(if k=f then (k,v)::r else (k,x)::Yr f v r) from rfl]
  by_cases hk:k=f
  ·rw[if_pos hk]
   by_cases h:g=k
   ·have hb:(g==k)=true:=beq_iff_eq.mpr h
    simp only[List.lookup,hb,if_pos (h.trans hk)]
   ·have hb:(g==k)=false:=beq_eq_false_iff_ne.mpr h
    simp only[List.lookup,hb,if_neg (fun e:g=f=>h (e.trans hk.symm))]
  ·rw[if_neg hk]
   by_cases h:g=k
   ·have hb:(g==k)=true:=beq_iff_eq.mpr h
    simp only[List.lookup,hb,if_neg (fun e:g=f=>hk (h.symm.trans e))]
   ·have hb:(g==k)=false:=beq_eq_false_iff_ne.mpr h
    simp only[List.lookup,hb]
    exact ih
theorem Kf (f:Str)(v:V):∀fs:List (Str×V),f∈(Yr f v fs).map (·.1)/\∀g,g∈fs.map (·.1)->g∈(Yr f v fs).map (·.1)
 | []=>⟨by simp[Yr],fun g h=>by simp at h⟩
 | (k,x)::r=>by
  obtain⟨i1,i2⟩:=Kf f v r
  rw[show Yr f v ((k,x)::r)=(if k=f then (k,v)::r else (k,x)::Yr f v r) from rfl]
  by_cases hk:k=f
  ·rw[if_pos hk]
   subst hk
   exact⟨by simp,fun g h=>by simpa using h⟩
  ·rw[if_neg hk]
   refine⟨?_,fun g h=>?_⟩
   ·rw[ztB]
    exact ztn _ i1
   ·rw[ztB] at h ⊢
    rcases List.mem_cons.mp h with e | e
    ·exact List.mem_cons.mpr (.inl e)
    ·exact ztn _ (i2 g e)
theorem Jd (f:Str)(v:V):∀fs:List (Str×V),(Yr f v fs).length<=fs.length+1
 | []=>by simp[Yr]
 | (k,x)::r=>by
  have ih:=Jd f v r
  rw[show Yr f v ((k,x)::r)=(if k=f then (k,v)::r else (k,x)::Yr f v r) from rfl]
  by_cases hk:k=f
  ·rw[if_pos hk,zto,zto];omega
  ·rw[if_neg hk,zto,zto];omega
theorem T9.some_of {v:V}{o:Option Value}(r:T9 (some v) o):∃u,o=some u/\RelV v u:=by
 cases o with
 | none=>exact(show False from r).elim
 | some u=>exact⟨u,rfl,r⟩
theorem T9.none_of {o:Option Value}(r:T9 none o):o=none:=by
 cases o with
 | none=>rfl
 | some u=>exact(show False from r).elim
theorem zhK {v:V}{u:Value}(r:RelV v u):PySem.W.handedIn u=true:=by
 cases v with
 | non=>cases (show u=Value.none from r);rfl
 | bl b=>cases (show u=Value.bool b from r);rfl
 | int i=>obtain⟨t,e⟩:=(show ∃t,u=Value.int i t from r);cases e;rfl
 | str x=>obtain⟨t,e⟩:=(show ∃t,u=Value.str x t from r);cases e;rfl
 | byt b=>obtain⟨t,e⟩:=(show ∃t,u=Value.bytes b t from r);cases e;rfl
 | flt b=>obtain⟨t,e⟩:=(show ∃t,u=Value.float b t from r);cases e;rfl
 | ref a=>cases (show u=Value.ref a from r);rfl
 | ty n=>cases (show u=Value.type n from r);rfl
section
variable {P:Program}{w:World}{H H':Hp}{h h':Heap}{a C dx:Addr}{fs fs':List (Str×V)}
theorem zab (hok:QT P w H h)(e:H a=some (.ins C dx fs)):∃mA,zfI h a dx C mA/\(∀f,T9 (fs.lookup f) (mA f))/\PySem.Within mA (fs.map (·.1))/\fs.length<=1000/\H dx=some (.own a):=by
 obtain⟨d,z,ne,ob,mA,n,r,q⟩:=(show xZ P w H h a (.ins C dx fs) from hok a _ e)
 exact⟨mA,⟨ob,n,ne⟩,r,q,z,d⟩
end
structure Cls (K:Frag)(C:Addr):Prop where
 pg:PySem.W.plainGet K C Str.empty=true
 hd:PySem.W.hasDictIn K C=true
 po:PySem.W.plainOver K C=true
 sa:findIn K (.ref C) "__setattr__"=some (some (.builtin "object.__setattr__"))
theorem Cls.get {K:Frag}{C:Addr}(c:Cls K C)(f:Str):PySem.W.plainGet K C f=true:=c.pg
def Wg (K:Frag)(C:Addr)(f:Str):Prop:=findIn K (.ref C) f=some none
theorem Wg.taker {K:Frag}{C:Addr}{f:Str}(n:Wg K C f):PySem.W.takerIn K C f=some none:=by
 unfold PySem.W.takerIn
 rw[show findIn K (.ref C) f=some none from n]
 rfl
structure Meth (K:Frag)(C:Addr)(m:Str)(f:Addr):Prop where
 at_:findIn K (.ref C) m=some (some (.ref f))
 fn:PySem.W.isFn K (.ref f)=true
 kp:PySem.W.keepIn K (.ref f)=true
section
variable {X:Cx}{pins:List (Addr×Obj)}{σ:St}{H:Hp}{s:Shared}{a C dx:Addr}{fs:List (Str×V)}{f:Str}{v:V}{A:Around}{E:Value->Shared->Prop}
theorem zfJ {b:Bool}{Q:Value->Shared->Prop}(I:Inv X pins σ H s)(e:H a=some (.ins C dx fs))(c:Cls X.K C)(n:Wg X.K C f)(l:fs.lookup f=some v)
  (h:∀u s',Inv X pins σ H s'->RelV v u->Q u s'):wpAny (model X.prog X.w) A (getAttr (.ref a) f b) Q E s:=by
 obtain⟨mA,O,r,_,_,_⟩:=zab I.hok e
 obtain⟨u,hu,ru⟩:=T9.some_of (v:=v) (o:=mA f) (by rw[<-l];exact r f)
 exact get_map I.LQ O (c.get f) c.hd n hu (zhK ru) (h u _ (I.tok _) ru)
theorem PL {m:Str}{g:Addr}{pl:Sem Bool}{Q:Value×List Value->Shared->Prop}(I:Inv X pins σ H s)(e:H a=some (.ins C dx fs))(c:Cls X.K C)(k:Meth X.K C m g)(l:fs.lookup m=none)
  (h:Q (.ref g,[.ref a]) s):wpAny (model X.prog X.w) A (getMethod (.ref a) m pl) Q E s:=by
 obtain⟨mA,O,r,_,_,_⟩:=zab I.hok e
 have hn:mA m=none:=T9.none_of (by rw[<-l];exact r m)
 exact ziw I.LQ O (c.get m) k.at_ k.fn hn h
theorem zfK {y:V}{u:Value}{Q:Unit->Shared->Prop}(I:Inv X pins σ H s)(e:H a=some (.ins C dx fs))(c:Cls X.K C)(n:Wg X.K C f)(hl:fs.length<1000)(ry:RelV y u)
  (h:∀s',Inv X pins σ (upd H a (.ins C dx (Yr f y fs))) s'->Q () s'):wpAny (model X.prog X.w) A (setAttr (.ref a) f u) Q E s:=by
 obtain⟨mA,O,r,wi,_,ho⟩:=zab I.hok e
 have hz:(fs.map (·.1)).length<=sizeLine:=by rw[ztc,sizeLine_eq];omega
 refine zj8 I.LQ O c.sa c.po n.taker c.hd wi hz fun h' O' sb=>h _ ?_
 have hd:∃o,h'.get? dx=some o:=let ⟨o,_,_,e',_⟩:=O'.ns;⟨o,e'⟩
 refine I.write (x:=a) (e:=dx) (by rw[e];exact True.intro) (.inr ho) (fun b q hb z=>(sb.2 b hb).trans z) hd ?_
 refine⟨by rw[zG O.ne];exact ho,?_,O.ne,O'.obj,_,O'.ns,fun g=>?_,fun g hg=>?_⟩
 ·have:=Jd f y fs;omega
 ·show T9 ((Yr f y fs).lookup g) (if g=f then some u else mA g)
  rw[Jc]
  by_cases q:g=f
  ·rw[if_pos q,if_pos q];exact ry
  ·rw[if_neg q,if_neg q];exact r g
 ·by_cases q:g=f
  ·rw[q];exact(Kf f y fs).1
  ·refine(Kf f y fs).2 g (wi g fun z=>hg ?_)
   show(if g=f then some u else mA g)=none
   rw[if_neg q];exact z
theorem Inv.made (I:Inv X pins σ H s):Inv X pins σ (upd (upd H s.heap.objs.size (.own (s.heap.objs.size+1))) (s.heap.objs.size+1) (.ins C s.heap.objs.size []))
  {s with heap:=(s.heap.push PySem.W.emptyDict).push (PySem.W.instObj C s.heap.objs.size) }:=by
 have e1:(s.heap.push PySem.W.emptyDict).get? s.heap.objs.size=some PySem.W.emptyDict:=ztx s.heap rfl
 have e2:((s.heap.push PySem.W.emptyDict).push (PySem.W.instObj C s.heap.objs.size)).get? (s.heap.objs.size+1)=some (PySem.W.instObj C s.heap.objs.size):=by
  have:=ztx (s.heap.push PySem.W.emptyDict) (o:=PySem.W.instObj C s.heap.objs.size) rfl
  rwa [Heap.size_push] at this
 have e3:(s.heap.push PySem.W.emptyDict).Ns s.heap.objs.size (fun _=>none):=⟨PySem.W.emptyDict,#[],_,e1,rfl,(fun e he=>absurd he (by simp)),fun _=>rfl⟩
 have I1:=I.laid (a:=s.heap.objs.size) (o:=.own (s.heap.objs.size+1)) (h':=s.heap.push PySem.W.emptyDict) (t':=s.toks) (fun b u q=>zti _ q) (zts _) ⟨_,e1⟩
 refine I1.laid (a:=s.heap.objs.size+1) (o:=.ins C s.heap.objs.size []) (t':=s.toks) (fun b u q=>zti _ q) (Nat.le_of_eq (Heap.size_push _ _)) ?_
 have ne:s.heap.objs.size≠s.heap.objs.size+1:=ztr (Nat.lt_succ_self _)
 refine⟨by rw[zG ne,zf],ztz _,ne,e2,fun _=>none,(Heap.Ns1.of_empty e3).at fun o q=>zti _ q,fun _=>True.intro,fun y hy=>absurd rfl hy⟩
theorem zj9 {prog:Program}{w:World}{env:Env}{e:Expr}{f:Str}{pos:Pos}{s:Shared}{Q:Value->Shared->Prop}(hb:attributeBase e f env (eval e env)=eval e env)
  (h:wpAny (model prog w) A (eval e env) (fun o s₁=>wpAny (model prog w) A (getAttr o f true) Q E s₁) E s):wpAny (model prog w) A (eval (.Attribute e f pos) env) Q E s :=
 Attribute_any_ h (by rw[arm_eval_Attribute,hb])
end
def zo5 (K:Frag)(ta:TE)(f:Str):TE:=fun σ H Q=>ta σ H fun x H1=>∃a C dx fs v,x=.ref a/\H1 a=some (.ins C dx fs)/\Cls K C/\Wg K C f/\fs.lookup f=some v/\Q v H1
def zo6 (K:Frag)(ta tv:TE)(f:Str):TS:=fun D σ H=>tv σ H fun y H1=>ta σ H1 fun x H2=>∃a C dx fs,x=.ref a/\H2 a=some (.ins C dx fs)/\Cls K C/\Wg K C f/\fs.length<1000 /\
 D.nx σ (upd H2 a (.ins C dx (Yr f y fs)))
section
variable {X:Cx}{o e value:Expr}{f:Str}{pos pos' tpos:Pos}{ta tv:TE}
theorem Xl (he:PE X e ta)(hb:attributeBase e f X.env (eval e X.env)=eval e X.env):PE X (.Attribute e f pos) (zo5 X.K ta f):=by
 intro pins s σ H Q I h
 refine zj9 hb (wD (he pins s σ H _ I h) fun u s1 ⟨x,H1,I1,rx,a,C,dx,fs,v,ex,ea,c,n,l,q⟩=>?_)
 subst ex
 obtain rfl:u=Value.ref a:=rx
 exact zfJ I1 ea c n l fun u' s2 I2 ru=>⟨v,H1,I2,ru,q⟩
theorem zcV (ha:PE X o ta)(hv:PE X value tv)(hs:swapsWith value (some (.Attribute o f pos')) pos.line X.env=pure false):PS X (.Assign [.Attribute o f pos'] value pos) (zo6 X.K ta tv f):=by
 intro pins s σ H D I h
 refine plainObj_wpAny_Assign_Attribute (wD (hv pins s σ H _ I h) fun u s1 ⟨y,H1,I1,ry,q⟩=>wD (ha pins s1 σ H1 _ I1 q) fun ov s2 ⟨x,H2,I2,rx,a,C,dx,fs,ex,ea,c,n,l,q2⟩=>?_) hs
 subst ex
 obtain rfl:ov=Value.ref a:=rx
 exact zfK I2 ea c n l ry fun s3 I3=>⟨σ,_,I3,q2⟩
theorem zlu {pl:Sem Bool}{m:Str}{apos:Pos}{args:List Expr}{pins:List (Addr×Obj)}{s:Shared}{σ:St}{H:Hp}{Q:Value->Shared->Prop}{te:TE}(he:PE X e te)(I:Inv X pins σ H s)
  (h:te σ H fun x H1=>∃a C dx fs g,x=.ref a/\H1 a=some (.ins C dx fs)/\Cls X.K C/\Meth X.K C m g/\fs.lookup m=none /\
   ∀s1,Inv X pins σ H1 s1->wpAny (model X.prog X.w) X.A (callWith pos (.ref g) [.ref a] (backTo pos (starEach args X.env)) (backToKw pos (keywordEach [] X.env))) Q X.xe s1)
  (ht:eval (.Call (.Attribute e m apos) args [] pos) X.env=(do
   let ov <-eval e X.env
   standAt apos.atName
   let (f,first) <-holding [ov] (getMethod ov m pl)
   callWith pos f first (backTo pos (starEach args X.env)) (backToKw pos (keywordEach [] X.env)))) :
  wpAny (model X.prog X.w) X.A (eval (.Call (.Attribute e m apos) args [] pos) X.env) Q X.xe s:=by
 refine PySem.W.methodCall_KW (pl:=pl) (wD (he pins s σ H _ I h) fun u s1 ⟨x,H1,I1,rx,a,C,dx,fs,g,ex,ea,c,k,l,q⟩=>?_) ht
 subst ex
 obtain rfl:u=Value.ref a:=rx
 exact PL I1 ea c k l (q s1 I1)
end
section
variable {X:Cx}{pins:List (Addr×Obj)}{σ:St}{H:Hp}{s:Shared}{A:Around}{E:Value->Shared->Prop}{Q:Value->Shared->Prop}{c:Value}{b:Bool}
inductive Mj (K:Frag)(H:Hp):V->Value->Prop where
 | non:Mj K H .non (.type "NoneType")
 | bl (x:Bool):Mj K H (.bl x) (.type "bool")
 | int (i:Int):Mj K H (.int i) (.type "int")
 | str (x:Str):Mj K H (.str x) (.type "str")
 | flt (x:UInt64):Mj K H (.flt x) (.type "float")
 | lst {a:Addr} {xs:List V} (e:H a=some (.lst xs)):Mj K H (.ref a) (.type "list")
 | frz {a:Addr} {o:Obj} {xs:List V} (e:H a=some (.frz o (.lst xs))):Mj K H (.ref a) (.type "list")
 | tup {a:Addr} {xs:List V} (e:H a=some (.tup xs)):Mj K H (.ref a) (.type "tuple")
 | dK {a:Addr} {kvs:List (Key×V)} (e:H a=some (.dK kvs)):Mj K H (.ref a) (.type "dict")
 | dT {a:Addr} {kvs:List (List Key×V)} (e:H a=some (.dT kvs)):Mj K H (.ref a) (.type "dict")
 | ins {a C dx:Addr} {fs:List (Str×V)} (e:H a=some (.ins C dx fs)) (cl:Cls K C) (ha:findIn K (.ref C) "__class__"=some (some (.builtin "object.__class__")))
   (hn:PySem.W.specialIn K (.builtin "object.__class__") "__get__"=some (some (.builtin "getset_descriptor.__get__"))) (htk:PySem.W.takesIn K (.builtin "object.__class__")=some true)
   (hm:PySem.W.mroIn K C (.type "object")=some true):Mj K H (.ref a) (.ref C)
theorem zhL {x:V}{u t:Value}(I:Inv X pins σ H s)(rx:RelV x u)(ty:Mj X.K H x t)(e:PySem.W.kitOne X.K t c=some b)(h:∀tk,Q (.bool b) { s with toks:=tk }) :
  wpAny (model X.prog X.w) A (call (.builtin "isinstance") [u,c]) Q E s:=by
 cases ty with
 | non=>cases (show u=Value.none from rx);exact PySem.W.kia_one PySem.W.kitx_none I.LQ True.intro e (fun z=>nomatch z) h
 | bl y=>cases (show u=Value.bool y from rx);exact PySem.W.kia_one PySem.W.kitx_bool I.LQ True.intro e (fun z=>nomatch z) h
 | int i=>obtain⟨t,q⟩:=(show ∃t,u=Value.int i t from rx);cases q;exact PySem.W.kia_one PySem.W.kitx_int I.LQ True.intro e (fun z=>nomatch z) h
 | str y=>obtain⟨t,q⟩:=(show ∃t,u=Value.str y t from rx);cases q;exact PySem.W.kia_one PySem.W.kitx_str I.LQ True.intro e (fun z=>nomatch z) h
 | flt y=>obtain⟨t,q⟩:=(show ∃t,u=Value.float y t from rx);cases q;exact PySem.W.kia_one PySem.W.kitx_float I.LQ True.intro e (fun z=>nomatch z) h
 | @lst a xs ea =>
  cases (show u=Value.ref a from rx)
  obtain⟨_,_,n,_,h1⟩:=(show xZ X.prog X.w H s.heap a (.lst xs) from I.hok a _ ea)
  exact PySem.W.kia_one PySem.W.kitx_list I.LQ ⟨_,h1,rfl⟩ e (fun z=>nomatch z) h
 | @frz a ob xs ea =>
  cases (show u=Value.ref a from rx)
  obtain⟨_,_,_,n,_,h1⟩:=(show xZ X.prog X.w H s.heap a (.frz ob (.lst xs)) from I.hok a _ ea)
  exact PySem.W.kia_one PySem.W.kitx_list I.LQ ⟨_,h1,rfl⟩ e (fun z=>nomatch z) h
 | @tup a xs ea =>
  cases (show u=Value.ref a from rx)
  obtain⟨_,_,_,p⟩:=(show xZ X.prog X.w H s.heap a (.tup xs) from I.hok a _ ea)
  obtain⟨o,h1,h2,_⟩:=p
  exact PySem.W.kia_one PySem.W.kitx_tuple I.LQ ⟨o,h1,h2⟩ e (fun z=>nomatch z) h
 | @dK a kvs ea =>
  cases (show u=Value.ref a from rx)
  obtain⟨_,_,vs,_,p⟩:=(show xZ X.prog X.w H s.heap a (.dK kvs) from I.hok a _ ea)
  obtain⟨o,es,ep,h1,h2,_⟩:=p
  exact PySem.W.kia_one PySem.W.kitx_dict I.LQ ⟨o,h1,h2.1⟩ e (fun z=>nomatch z) h
 | @dT a kvs ea =>
  cases (show u=Value.ref a from rx)
  obtain⟨_,_,xs,_,o,es,ep,h1,h2,_⟩:=(show xZ X.prog X.w H s.heap a (.dT kvs) from I.hok a _ ea)
  exact PySem.W.kia_one PySem.W.kitx_dict I.LQ ⟨o,h1,h2.1⟩ e (fun z=>nomatch z) h
 | @ins a C dx fs ea cl ha hn htk hm =>
  cases (show u=Value.ref a from rx)
  obtain⟨mA,O,_⟩:=zab I.hok ea
  obtain⟨od,J,_⟩:=O.look
  exact PySem.W.kia_one (PySem.W.kitx_own (cl.get _) cl.hd ha hn htk hm) I.LQ J e (fun z=>nomatch z) h
end
structure Zn (k:Nat)(A:Around):Prop where
 hd:A.handled=none
 gd:A.guards=some []
 dp:A.depth+3*k+5<recursionLimit
 un:A.units+16*k+200<cLine
theorem Zn.mono {j k:Nat}{A:Around}(r:Zn k A)(h:j<=k):Zn j A:=⟨r.hd,r.gd,by have:=r.dp;omega,by have:=r.un;omega⟩
theorem Zn.deeper {k:Nat}{A:Around}(r:Zn (k+1) A)(env:Env):Zn k (A.deeper env) :=
 ⟨r.hd,r.gd,by have:=r.dp;show A.depth+1+3*k+5<_;omega,by have:=r.un;show A.units+3+16*k+200<_;omega⟩
theorem zfL {A:Around}{C:Addr}{us:List Value}{kw:List (Str×Value)}:(A.under (.builtin "type.__call__" ⟨.ref C::us,kw⟩)).depth=A.depth+1:=by
 first | rfl | simp[Around.under,Code.weight,Code.isCreation,Code.isGuard,Code.isCaller,Code.frames,Code.isFrame,guardIds]
theorem zfM {A:Around}{C:Addr}{us:List Value}{kw:List (Str×Value)}:(A.under (.builtin "type.__call__" ⟨.ref C::us,kw⟩)).units=A.units+1:=by
 first | rfl | simp[Around.under,Code.cUnits,Code.frames,Code.isFrame]
theorem Zn.make {k:Nat}{A:Around}(r:Zn (k+1) A)(C:Addr)(us:List Value)(kw:List (Str×Value)):Zn k (A.under (.builtin "type.__call__" ⟨.ref C::us,kw⟩)) :=
 ⟨r.hd,(by
  have e:(Code.builtin "type.__call__" ⟨.ref C::us,kw⟩).guards=[]:=by first | rfl | simp[Code.guards,Code.isGuard,guardIds]
  unfold Around.under
  simp only[e,pushGuards]
  exact r.gd),by have:=r.dp;rw[zfL];omega,by have:=r.un;rw[zfM];omega⟩
theorem Zn.depth {k:Nat}{A:Around}(r:Zn k A):A.depth<recursionLimit:=by have:=r.dp;omega
theorem Zn.units {k:Nat}{A:Around}(r:Zn k A):A.units+64<cLine:=by have:=r.un;omega
def zbE:TA:=fun _ H Q=>Q [] H
def V2 (ta:TE)(tr:TA):TA:=fun σ H Q=>ta σ H fun x H1=>tr σ H1 fun xs H2=>Q (x::xs) H2
section
variable {X:Cx}{e:Expr}{es:List Expr}{te:TE}{t:TA}{pos:Pos}
theorem zc:PA X [] zbE:=fun _ _ _ _ H Q I h=>Calls.spliced_nil ⟨[],H,I,.nil,h⟩
theorem za (ha:PE X e te)(hr:PA X es t)(hs:starEach (e::es) X.env=(false,eval e X.env)::starEach es X.env:=by rfl):PA X (e::es) (V2 te t):=by
 intro pos pins s σ H Q I h
 rw[hs]
 show wpAny _ _ (spliced ((false,eval e X.env)::backTo pos (starEach es X.env))) _ _ s
 refine Calls.spliced_cons (wD (ha pins s σ H _ I h) fun u s1 ⟨x,H1,I1,r1,q1⟩=>?_)
 exact wD (hr pos pins s1 σ H1 _ I1 q1) fun us s2 ⟨xs,H2,I2,r2,q2⟩=>⟨x::xs,H2,I2,.cons r1 r2,q2⟩
def zo7 (t:TA):TE:=fun σ H Q=>t σ H fun xs H1=>xs.length<=sizeLine/\∀p,H1 p=none->Q (.ref p) (upd H1 p (.tup xs))
def zo8 (t:TA):TE:=fun σ H Q=>t σ H fun xs H1=>xs.length<=sizeLine/\∀p,H1 p=none->Q (.ref p) (upd H1 p (.lst xs))
theorem uG {x1}(h:PA X es t):PE X (.Tuple es x1 pos) (zo7 t):=by
 intro pins s σ H Q I hq
 refine wpAny_Tuple_spliced (wD (h pos pins s σ H _ I hq) fun us s1 ⟨xs,H1,I1,r,z,q⟩=>⟨by rw[<-r.length];exact z,?_⟩)
 have hf:H1 s1.heap.objs.size=none:=I1.hok.fresh (zts _)
 refine⟨.ref s1.heap.objs.size,upd H1 s1.heap.objs.size (.tup xs),I1.laid (t':=s1.toks) (fun b u e=>zti _ e) (zts _) ?_,rfl,q _ hf⟩
 exact⟨z,us,r,⟨_,ztx _ rfl,rfl,_,rfl⟩⟩
theorem yM (h:PA X es t):PE X (.List es pos) (zo8 t):=by
 intro pins s σ H Q I hq
 refine wpAny_List_spliced (wD (h pos pins s σ H _ I hq) fun us s1 ⟨xs,H1,I1,r,z,q⟩=>⟨by rw[<-r.length];exact z,?_⟩)
 have hf:H1 s1.heap.objs.size=none:=I1.hok.fresh (zts _)
 refine⟨.ref s1.heap.objs.size,upd H1 s1.heap.objs.size (.lst xs),I1.laid (t':=s1.toks) (fun b u e=>zti _ e) (zts _) ?_,rfl,q _ hf⟩
 exact⟨z,us,0,r,ztx _ rfl⟩
end
abbrev Sp:=List V->Hp->VK->XK->Prop
abbrev CXT:=List Env->Hp->Shared->XK->Value->Shared->Prop
structure zfN (P:Program)(w:World)(K:Frag)(mg:Str->Option Value)(base:Heap)(A:Around)(outer:List Env)(s:Shared)(H:Hp):Prop where
 frames:A.frames=some outer
 mod:Mod K mg base
 bs:∀b o,base.get? b=some o->s.heap.get? b=some o/\H b=none
 bsz:base.objs.size<=s.heap.objs.size
 LK:s.heap.FunFrames base outer
 frf:∀b∈frs outer,H b=none
 hok:QT P w H s.heap
 bare:AllBare s.gens
def CE (outer:List Env)(P:Program)(w:World)(H:Hp)(s:Shared)(Q:VK)(u:Value)(s':Shared):Prop :=
 ∃v H',s'.os=s.os/\AllBare s'.gens/\Un (frs outer) [] H H' s.heap s'.heap/\QT P w H' s'.heap/\RelV v u/\Q v H'
def CR (CX:CXT)(outer:List Env)(P:Program)(w:World)(H:Hp)(s:Shared)(Q:VK)(E:XK)(r:Result)(s':Shared):Prop :=
 match r with
 | .ok (.ret u)=>CE outer P w H s Q u s'
 | .ok _=>False
 | .error e=>CX outer H s E e s'
structure zF (P:Program)(w:World)(K:Frag)(mg:Str->Option Value)(base:Heap)(CX:CXT)(k:Nat)(f:Addr)(fd:FuncData)(ps:List Str)(sp:Sp):Prop where
 len:∀vs H Q E,sp vs H Q E->vs.length=ps.length
 run:∀(A:Around) (outer:List Env) (s:Shared) (H:Hp) (args:Args) (us:List Value) (vs:List V) (Q:VK) (E:XK),Zn k A->zfN P w K mg base A outer s H->BindsTo s fd args (ps.zip us)->Vals vs us->sp vs H Q E ->
  codeAny (model P w) A (.call (.ref f) args) (CR CX outer P w H s Q E) s
theorem zF.mono {P:Program}{w:World}{K:Frag}{mg:Str->Option Value}{base:Heap}{CX:CXT}{j k:Nat}{f:Addr}{fd:FuncData}{ps:List Str}{sp:Sp}(F:zF P w K mg base CX j f fd ps sp)(h:j<=k) :
  zF P w K mg base CX k f fd ps sp:=⟨F.len,fun A outer s H args us vs Q E hr=>F.run A outer s H args us vs Q E (hr.mono h)⟩
theorem zfN.make {P:Program}{w:World}{K:Frag}{mg:Str->Option Value}{base:Heap}{A:Around}{outer:List Env}{s:Shared}{H:Hp}(e:zfN P w K mg base A outer s H)(C:Addr)(us:List Value)(kw:List (Str×Value)) :
  zfN P w K mg base (A.under (.builtin "type.__call__" ⟨.ref C::us,kw⟩)) outer s H:=⟨by first | exact e.frames | (simpa [Around.under,Code.envs,Code.isFrame,pushEnvs] using e.frames),e.mod,e.bs,e.bsz,e.LK,e.frf,e.hok,e.bare⟩
section
variable {X:Cx}{pins:List (Addr×Obj)}{σ:St}{H:Hp}{s s':Shared}
theorem Inv.env0 (I:Inv X pins σ H s):zfN X.prog X.w X.K X.mg X.base X.A X.stack s H :=
 ⟨I.ok.frames,I.ok.mod,I.bs,zty I.ok.bsz I.sz,I.stack,I.zgJ,I.hok,I.bare⟩
theorem Inv.after {Q:VK}{u:Value}(I:Inv X pins σ H s)(h:CE X.stack X.prog X.w H s Q u s'):EP X pins σ Q u s':=by
 obtain⟨v,H',os,bare,un,hok,r,q⟩:=h
 obtain⟨hh,g,d,t,os'⟩:=s'
 obtain rfl:os'=s.os:=os
 exact⟨v,H',I.call (h':=hh) (g':=g) (d':=d) (t':=t) (ch:=[]) un hok bare (fun b z=>absurd z (by simp)),r,q⟩
end
def Ml (sp:Sp)(dvs:List V)(E:XK)(t:TA):TE:=fun σ H Q=>t σ H fun vs H1=>sp (vs++dvs) H1 Q E
def zgP (C:Addr)(m:Str)(sp:Sp)(dvs:List V)(E:XK)(ta:TE)(t:TA):TE:=fun σ H Q=>ta σ H fun x H1=>∃a dx fs,x=.ref a/\H1 a=some (.ins C dx fs)/\fs.lookup m=none /\
 t σ H1 fun vs H2=>sp (x::(vs++dvs)) H2 Q E
def znj (C:Addr)(sp:Sp)(dvs:List V)(E:XK)(t:TA):TE:=fun σ H Q=>t σ H fun vs H1=>∀x dx,H1 x=none->H1 dx=none->dx≠x ->
 sp (.ref x::(vs++dvs)) (upd (upd H1 dx (.own x)) x (.ins C dx [])) (fun v H2=>v=.non/\Q (.ref x) H2) E
def Binds (K:Frag)(fd:FuncData)(ps:List Str)(ds:List Value):Prop :=
 ∀(s:Shared) (us:List Value),K.In s.heap->(us++ds).length=ps.length->BindsTo s fd ⟨us,[]⟩ (ps.zip (us++ds))
theorem Binds.all {K:Frag}{fd:FuncData}{ps:List Str}(h:∀us:List Value,us.length=ps.length->bindArgs fd ⟨us,[]⟩=pure (ps.zip us)):Binds K fd ps []:=fun s us _ hl=>by
 rw[List.append_nil] at hl ⊢
 exact .of_eq (h us hl)
def Passes (CX:CXT)(X:Cx)(E:XK):Prop:=∀(pins:List (Addr×Obj)) (σ:St) (H:Hp) (s:Shared) (e:Value) (s':Shared),Inv X pins σ H s->CX X.stack H s E e s'->X.xe e s'
section
variable {X:Cx}{CX:CXT}{k:Nat}{f C:Addr}{fd:FuncData}{ps:List Str}{sp:Sp}{dvs:List V}{ds:List Value}{E:XK}{x m:Str}{p pos apos:Pos}{e o:Expr}{es:List Expr}{ta:TE}{t:TA}
theorem zfO {pins:List (Addr×Obj)}{σ:St}{H:Hp}{s:Shared}{Q:VK}{us:List Value}{vs:List V}(F:zF X.prog X.w X.K X.mg X.base CX k f fd ps sp)(hr:Zn k X.A)(hb:Binds X.K fd ps ds)(hd:Vals dvs ds)(hx:Passes CX X E)
  (I:Inv X pins σ H s)(r:Vals vs us)(h:sp (vs++dvs) H Q E):wpAny (model X.prog X.w) X.A (call (.ref f) us) (EP X pins σ Q) X.xe s:=by
 have r2:Vals (vs++dvs) (us++ds):=r.append hd
 have hl:(us++ds).length=ps.length:=by rw[<-r2.length];exact F.len _ _ _ _ h
 refine wpAny_call (codeAny_mono (F.run X.A X.stack s H ⟨us,[]⟩ (us++ds) (vs++dvs) Q E hr I.env0 (hb s us I.LQ hl) r2 h) fun r s' hq=>?_)
 cases r with
 | error e=>exact hx pins σ H s e s' I hq
 | ok fl =>
  cases fl with
  | ret u=>exact I.after hq
  | next=>exact False.elim hq
  | brk=>exact False.elim hq
  | cont=>exact False.elim hq
theorem zka (F:zF X.prog X.w X.K X.mg X.base CX k f fd ps sp)(hr:Zn k X.A)(hg:Gl X x)(hm:X.mg x=some (.ref f))(hk:PySem.W.keepIn X.K (.ref f)=true)(hb:Binds X.K fd ps ds)(hd:Vals dvs ds)(hx:Passes CX X E)
  (ha:PA X (e::es) t)(hdb:(x==("__debug__" : Str))=false:=by decide)(he:starEach (e::es) X.env=(false,eval e X.env)::starEach es X.env:=by rfl)(hpl:(backTo pos (starEach es X.env)).any (·.1)=false:=by rfl) :
  PE X (.Call (.Name x p) (e::es) [] pos) (Ml sp dvs E t):=by
 intro pins s σ H Q I h
 refine wpAny_Call_Name_kw (zcP I hg hm ?_ hdb)
 refine PySem.W.callWith_K (h₀:=X.base) I.ok.mod.kin hk (wD (ha pos pins s σ H _ I h) fun us s1 ⟨vs,H1,I1,r,q⟩=>⟨I1.LQ,?_⟩) he hpl
 exact zfO F hr hb hd hx I1 r q
theorem zkb {pl:Sem Bool}(he:PE X o ta)(c:Cls X.K C)(hm:Meth X.K C m f)(F:zF X.prog X.w X.K X.mg X.base CX k f fd ps sp)(hr:Zn k X.A)(hb:Binds X.K fd ps ds)(hd:Vals dvs ds)(hx:Passes CX X E)(ha:PA X (e::es) t)
  (hst:starEach (e::es) X.env=(false,eval e X.env)::starEach es X.env:=by rfl)(hpl:(backTo pos (starEach es X.env)).any (·.1)=false:=by rfl)
  (ht:eval (.Call (.Attribute o m apos) (e::es) [] pos) X.env=(do
   let ov <-eval o X.env
   standAt apos.atName
   let (f,first) <-holding [ov] (getMethod ov m pl)
   callWith pos f first (backTo pos (starEach (e::es) X.env)) (backToKw pos (keywordEach [] X.env))):=by rfl) :
  PE X (.Call (.Attribute o m apos) (e::es) [] pos) (zgP C m sp dvs E ta t):=by
 intro pins s σ H Q I h
 refine PySem.W.methodCall_KW (pl:=pl) (wD (he pins s σ H _ I h) fun u s1 ⟨x,H1,I1,rx,a,dx,fs,ex,ea,l,q⟩=>?_) ht
 subst ex
 obtain rfl:u=Value.ref a:=rx
 refine PL I1 ea c hm l ?_
 refine PySem.W.callWith_K (first:=[.ref a]) (h₀:=X.base) I.ok.mod.kin hm.kp (wD (ha pos pins s1 σ H1 _ I1 q) fun us s2 ⟨vs,H2,I2,r,q2⟩=>⟨I2.LQ,?_⟩) hst hpl
 exact zfO (us:=.ref a::us) (vs:=.ref a::vs) F hr hb hd hx I2 (.cons rfl r) q2
theorem ziy {pl:Sem Bool}(he:PE X o ta)(c:Cls X.K C)(hm:Meth X.K C m f)(F:zF X.prog X.w X.K X.mg X.base CX k f fd ps sp)(hr:Zn k X.A)(hb:Binds X.K fd ps ds)(hd:Vals dvs ds)(hx:Passes CX X E)
  (ht:eval (.Call (.Attribute o m apos) [] [] pos) X.env=(do
   let ov <-eval o X.env
   standAt apos.atName
   let (f,first) <-holding [ov] (getMethod ov m pl)
   callWith pos f first (backTo pos (starEach [] X.env)) (backToKw pos (keywordEach [] X.env))):=by rfl) :
  PE X (.Call (.Attribute o m apos) [] [] pos) (zgP C m sp dvs E ta zbE):=by
 intro pins s σ H Q I h
 refine PySem.W.methodCall_KW (pl:=pl) (wD (he pins s σ H _ I h) fun u s1 ⟨x,H1,I1,rx,a,dx,fs,ex,ea,l,q⟩=>?_) ht
 subst ex
 obtain rfl:u=Value.ref a:=rx
 refine PL I1 ea c hm l ?_
 exact PySem.W.callWith_K0 (first:=[.ref a]) I1.LQ hm.kp (zfO (us:=[.ref a]) (vs:=[.ref a]) F hr hb hd hx I1 (.cons rfl .nil) q)
structure Mk (K:Frag)(C f:Addr):Prop where
 makes:PySem.W.makesIn K C=true
 init:findIn K (.ref C) "__init__"=some (some (.ref f))
 fn:PySem.W.isFn K (.ref f)=true
 kp:PySem.W.keepIn K (.ref C)=true
theorem ziz {pins:List (Addr×Obj)}{σ:St}{H:Hp}{s:Shared}{Q:VK}{us:List Value}{vs:List V}(M:Mk X.K C f)(F:zF X.prog X.w X.K X.mg X.base CX k f fd ps sp)(hr:Zn (k+1) X.A)(hb:Binds X.K fd ps ds)(hd:Vals dvs ds)
  (hx:Passes CX X E)(I:Inv X pins σ H s)(r:Vals vs us)
  (h:∀x dx,H x=none->H dx=none->dx≠x->sp (.ref x::(vs++dvs)) (upd (upd H dx (.own x)) x (.ins C dx [])) (fun v H2=>v=.non/\Q (.ref x) H2) E) :
  wpAny (model X.prog X.w) X.A (call (.ref C) us) (EP X pins σ Q) X.xe s:=by
 have hq:=h (s.heap.objs.size+1) s.heap.objs.size (I.hok.fresh (Nat.le_succ _)) (I.hok.fresh (zts _)) (ztr (Nat.lt_succ_self _))
 have I2:=Inv.made (C:=C) I
 have r2:Vals (V.ref (s.heap.objs.size+1)::(vs++dvs)) (Value.ref (s.heap.objs.size+1)::(us++ds)):=.cons rfl (r.append hd)
 have hl:(Value.ref (s.heap.objs.size+1)::us++ds).length=ps.length:=by
  have e:=r2.length
  rw[F.len _ _ _ _ hq] at e
  exact e.symm
 refine wpAny_call (zix (f:=f) I.LQ M.makes M.init (beq_iff_eq.mp M.fn) (codeAny_mono (F.run _ X.stack _ _ ⟨Value.ref (s.heap.objs.size+1)::us,[]⟩ (Value.ref (s.heap.objs.size+1)::(us++ds)) _ _ E (hr.make C us [])
  (I2.env0.make C us []) (hb _ (Value.ref (s.heap.objs.size+1)::us) I2.LQ hl) r2 hq) fun r s' hq'=>?_))
 cases r with
 | error e=>exact hx pins σ _ _ e s' I2 hq'
 | ok fl =>
  cases fl with
  | ret u =>
   obtain⟨v,H',I3,rv,ev,q3⟩:=I2.after hq'
   subst ev
   exact⟨rv,⟨V.ref (s.heap.objs.size+1),H',I3,rfl,q3⟩⟩
  | next=>exact False.elim hq'
  | brk=>exact False.elim hq'
  | cont=>exact False.elim hq'
theorem zkc (M:Mk X.K C f)(F:zF X.prog X.w X.K X.mg X.base CX k f fd ps sp)(hr:Zn (k+1) X.A)(hg:Gl X x)(hm:X.mg x=some (.ref C))(hb:Binds X.K fd ps ds)(hd:Vals dvs ds)(hx:Passes CX X E)
  (ha:PA X (e::es) t)(hdb:(x==("__debug__" : Str))=false:=by decide)(he:starEach (e::es) X.env=(false,eval e X.env)::starEach es X.env:=by rfl)(hpl:(backTo pos (starEach es X.env)).any (·.1)=false:=by rfl) :
  PE X (.Call (.Name x p) (e::es) [] pos) (znj C sp dvs E t):=by
 intro pins s σ H Q I h
 refine wpAny_Call_Name_kw (zcP I hg hm ?_ hdb)
 refine PySem.W.callWith_K (h₀:=X.base) I.ok.mod.kin M.kp (wD (ha pos pins s σ H _ I h) fun us s1 ⟨vs,H1,I1,r,q⟩=>⟨I1.LQ,?_⟩) he hpl
 exact ziz M F hr hb hd hx I1 r q
end
structure zN (N P:List Str)(sc:Scope):Prop where
 kind:sc.kind=.function
 co:sc.isCoroutine=false
 gen:sc.isGenerator=false
 nd:N.Nodup
 pre:N.take P.length=P
 par:∀x∈P,sc.names.lookup x=some .local\/sc.names.lookup x=some .cell
 zmc:∀y∈sc.names,y.2≠.free
theorem zca {kindOf:Str->Option NameKind}{x:Str}:∀{binds:List (Str×Value)} {m:Str->Option Value},(∀v,(x,v)∉binds)->bindL kindOf binds m x=m x
 | [],_,_=>rfl
 | (n,v)::r,m,h=>by
  unfold bindL
  rw[zca fun w hw=>h w (ztn _ hw)]
  split
  ·have:x≠n:=by rintro rfl;exact h v ztw
   simp[this]
  ·rfl
theorem zcb {kindOf:Str->Option NameKind}{x:Str}:∀{binds:List (Str×Value)} {m:Str->Option Value},(∀v,(x,v)∉binds)->bindC kindOf binds m x=m x
 | [],_,_=>rfl
 | (n,v)::r,m,h=>by
  unfold bindC
  rw[zcb fun w hw=>h w (ztn _ hw)]
  split
  ·rfl
  ·have:x≠n:=by rintro rfl;exact h v ztw
   simp[this]
theorem zcc {kindOf:Str->Option NameKind}{x:Str}{v:Value}:∀{P:List Str} {vs:List Value} {i:Nat} {m:Str->Option Value},P.Nodup->P[i]?=some x->vs[i]?=some v->kindOf x=some .local ->
  bindL kindOf (P.zip vs) m x=some v
 | [],_,_,_,_,h,_,_=>by simp at h
 | _::_,[],_,_,_,_,h,_=>by simp at h
 | p::P,w::vs,0,m,nd,h1,h2,hk=>by
  simp at h1 h2;subst h1;subst h2
  show bindL kindOf ((p,w)::P.zip vs) m p=_
  unfold bindL
  rw[zca fun v hv=>(List.nodup_cons.mp nd).1 (List.of_mem_zip hv).1,if_pos hk]
  simp
 | p::P,w::vs,i+1,m,nd,h1,h2,hk=>by
  show bindL kindOf ((p,w)::P.zip vs) m x=_
  unfold bindL
  exact zcc (i:=i) (List.nodup_cons.mp nd).2 (by simpa using h1) (by simpa using h2) hk
theorem zcd {kindOf:Str->Option NameKind}{x:Str}{v:Value}:∀{P:List Str} {vs:List Value} {i:Nat} {m:Str->Option Value},P.Nodup->P[i]?=some x->vs[i]?=some v->kindOf x≠some .local ->
  bindC kindOf (P.zip vs) m x=some v
 | [],_,_,_,_,h,_,_=>by simp at h
 | _::_,[],_,_,_,_,h,_=>by simp at h
 | p::P,w::vs,0,m,nd,h1,h2,hk=>by
  simp at h1 h2;subst h1;subst h2
  show bindC kindOf ((p,w)::P.zip vs) m p=_
  unfold bindC
  rw[zcb fun v hv=>(List.nodup_cons.mp nd).1 (List.of_mem_zip hv).1,if_neg hk]
  simp
 | p::P,w::vs,i+1,m,nd,h1,h2,hk=>by
  show bindC kindOf ((p,w)::P.zip vs) m x=_
  unfold bindC
  exact zcd (i:=i) (List.nodup_cons.mp nd).2 (by simpa using h1) (by simpa using h2) hk
def start (N:List Str)(vs:List V):St:=vs.map some++List.replicate (N.length-vs.length) none
def zhN (CX:CXT)(P:Program)(w:World)(K:Frag)(mg:Str->Option Value)(base:Heap)(N:List Str)(qual:Str)(scope:Scope)(f:Addr)(cd:Value)(A:Around)(outer:List Env)(s:Shared)(H:Hp)(E:XK):Cx where
 prog:=P
 w:=w
 K:=K
 mg:=mg
 base:=base
 A:=A.deeper (envOfC qual scope s.heap.objs.size f cd)
 N:=N
 s₀:=s
 H₀:=H
 env:=envOfC qual scope s.heap.objs.size f cd
 outer:=outer
 stack:=envOfC qual scope s.heap.objs.size f cd::outer
 ex:=[]
 calm:=true
 fn:=fun _=>true
 pn:=[]
 xe:=fun e s'=>wpAny (model P w) (A.deeper (envOfC qual scope s.heap.objs.size f cd)) (leaving (envOfC qual scope s.heap.objs.size f cd) e) (fun _ s''=>CX outer H s E e s'') (fun e' s''=>CX outer H s E e' s'') s'
theorem zei {sc:Scope}{n:Nat}{x:Str}(h:sc.names.lookup x=some .cell):∃c,(cellsFrom n sc.names []).lookup x=some c:=by
 have q:=PySem.W.cellsFrom_some sc.names n [] (.inl h)
 exact Option.isSome_iff_exists.mp q
theorem zhO {CX:CXT}{P:Program}{w:World}{K:Frag}{mg:Str->Option Value}{base:Heap}{N ps:List Str}{qual:Str}{scope:Scope}{f:Addr}{cd:Value}{A:Around}{outer:List Env}{s s1:Shared}{H:Hp}{E:XK}{us:List Value}{vs:List V}
  (S:zN N ps scope)(hd:A.handled=none)(e0:zfN P w K mg base A outer s H)(hl:vs.length=ps.length)(r:Vals vs us)
  (x:InCallC s s.heap.objs.size (bindL (envOfC qual scope s.heap.objs.size f cd).kindOf (ps.zip us) fun _=>none) (cellsFrom (s.heap.objs.size+1) scope.names []) (bindC (envOfC qual scope s.heap.objs.size f cd).kindOf (ps.zip us) fun _=>none) s1) :
  Inv (zhN CX P w K mg base N qual scope f cd A outer s H E) [] (start N vs) H s1:=by
 have hpl:ps.length<=N.length:=by have:=congrArg List.length S.pre;rw[ztA] at this;omega
 obtain⟨h1,tk,rfl,hk⟩:=x.done
 have noA:∀b:Addr,b∉(zhN CX P w K mg base N qual scope f cd A outer s H E).ex:=fun b z=>absurd (show b∈([]:List Addr) from z) (by simp)
 refine⟨⟨e0.mod,S.kind,rfl,rfl,zts _,fun y z c h1 h2=>?_,fun y hy=>?_,fun y c _ h=>?_,fun _=>hd,Around.frames_deeper e0.frames,.inr ⟨rfl,rfl⟩,fun b z=>absurd z (noA b),e0.bs,e0.bsz,fun b _ _=>noA b,fun b z=>absurd z (noA b),e0.LK,e0.frf⟩,
  rfl,e0.bare,Un.kept hk,⟨_,x.toInCall.ns,fun i y v h1 h2 h3=>?_⟩,fun y c h=>⟨_,x.cell y c h⟩,e0.hok.fresh (zts _),fun y c h=>?_,fun p hp=>absurd (show p∈([]:List (Addr×Obj)) from hp) (by simp),e0.hok.kept hk,?_⟩
 ·exact name_of_addr x.apart (PySem.mem_of_lookup h1) (PySem.mem_of_lookup h2)
 ·have hy:scope.names.lookup y=some .cell\/scope.names.lookup y=some .free:=hy
  rcases hy with hy | hy
  ·exact zei hy
  ·exact absurd rfl (S.zmc _ (PySem.mem_of_lookup hy))
 ·exact ztv (x.above y c (PySem.mem_of_lookup h))
 ·have hi:i<vs.length:=by
   unfold start at h2
   by_cases hi:i<vs.length
   ·exact hi
   ·rw[List.getElem?_append_right (by simpa using hi)] at h2
    rw[List.getElem?_replicate] at h2
    split at h2<;>cases h2
  have ha:vs[i]?=some v:=by
   unfold start at h2
   rw[ztJ (by simpa using hi),zte] at h2
   cases e:vs[i]? with
   | none=>rw[e] at h2;cases h2
   | some a=>rw[e] at h2;cases h2;rfl
  obtain⟨u,hu,rv⟩:=r.get ha
  have hp:ps[i]?=some y:=by
   rw[<-S.pre,List.getElem?_take_of_lt (by omega)];exact h1
  have ndP:ps.Nodup:=by rw[<-S.pre];exact S.nd.sublist (List.take_sublist _ _)
  refine⟨u,rv,?_⟩
  rcases S.par y (zth hp) with k | k
  ·exact .inl ⟨k,zcc ndP hp hu k⟩
  ·obtain⟨c,e⟩:=zei (n:=s.heap.objs.size+1) k
   refine .inr ⟨.inl k,c,e,?_⟩
   have q:=x.cell y c e
   rw[zcd ndP hp hu (by show scope.names.lookup y≠_;rw[k];decide)] at q
   exact q
 ·exact e0.hok.fresh (ztv (x.above y c (PySem.mem_of_lookup h)))
 ·unfold start
  show _=N.length
  rw[ztk,ztc,List.length_replicate]
  omega
theorem znl {CX:CXT}{P:Program}{w:World}{K:Frag}{mg:Str->Option Value}{base:Heap}{k:Nat}{f:Addr}{name qual:Str}{params:Arguments}{body:List Stmt}{scope:Scope}{dV kV doc pm cdv ct oc:Value}{an od:Option Addr}
  {osl:Array (Option Value)}{N ps:List Str}{sp:Sp}(lk:K.lookup f=some ⟨oc,od,.func (PySem.W.fnOf name qual params body scope dV kV doc pm an cdv ct),osl⟩)(hcd:PySem.W.codeIn K cdv qual=true)(S:zN N ps scope)
  (len:∀vs H Q E,sp vs H Q E->vs.length=ps.length)
  (hbody:∀(A:Around) (outer:List Env) (s:Shared) (H:Hp) (vs:List V) (Q:VK) (E:XK),Zn k (A.deeper (envOfC qual scope s.heap.objs.size f cdv))->sp vs H Q E ->
   ∃t,PSs (zhN CX P w K mg base N qual scope f cdv A outer s H E) body t/\t { nx:=fun _ H'=>Q .non H',rt:=Q } (start N vs) H) :
  zF P w K mg base CX (k+1) f (PySem.W.fnOf name qual params body scope dV kV doc pm an cdv ct) ps sp:=by
 refine⟨len,fun A outer s H args us vs Q E hr e0 hb r hsp=>?_⟩
 have hl:=len _ _ _ _ hsp
 have KX:K.In s.heap:=e0.mod.kin.keeps fun b o e=>(e0.bs b o e).1
 have lim:s.heap.NoLimit:=e0.mod.nolimit.keeps fun b o e=>(e0.bs b o e).1
 have hkind:∀y∈ps.zip us,scope.names.lookup y.1=some .local\/(scope.names.lookup y.1=some .cell/\((cellsFrom (s.heap.objs.size+1) scope.names []).lookup y.1).isSome=true):=fun⟨n,v⟩ hy=>by
  rcases S.par n (List.of_mem_zip hy).1 with q | q
  ·exact .inl q
  ·exact .inr ⟨q,PySem.W.cellsFrom_some _ _ _ (.inl q)⟩
 refine codeAny_call_function hr.depth (KX _ _ lk) rfl S.co S.gen rfl (PySem.W.codeRec_of KX hcd) (hb _ _ _ _ ?_)
 refine wpAny_newFunctionEnv_cells S.kind hkind fun env he s1 x=>?_
 subst he
 refine⟨lim.keeps x.toInCall.keep,codeAny_func ?_⟩
 obtain⟨t,ht,hq⟩:=hbody A outer s H vs Q E (hr.deeper _) hsp
 have I:Inv (zhN CX P w K mg base N qual scope f cdv A outer s H E) [] (start N vs) H s1:=zhO S hr.hd e0 hl r x
 refine wpAny_mono (ht [] s1 (start N vs) H _ I hq) (fun fl s' hs=>?_) fun e s' hs=>hs
 have fin:∀{σ':St} {H':Hp} {v:V} {u:Value},Inv (zhN CX P w K mg base N qual scope f cdv A outer s H E) [] σ' H' s'->RelV v u->Q v H'->CE outer P w H s Q u s' :=
  fun {σ' H' v u} J rv q=>⟨v,H',J.os,J.bare,J.base,J.hok,rv,q⟩
 cases fl with
 | ret u =>
  obtain⟨v,σ',H',J,rv,q⟩:=hs
  exact fin J rv q
 | next =>
  obtain⟨σ',H',J,q⟩:=hs
  exact fin (v:=V.non) (u:=Value.none) J rfl q
 | brk =>
  obtain⟨_,_,_,q⟩:=hs
  exact False.elim q
 | cont =>
  obtain⟨_,_,_,q⟩:=hs
  exact False.elim q
section
variable {X:Cx}{x:Str}{p pos:Pos}{e:Expr}{es:List Expr}{t:TA}{id T:String}{r:List V->Hp->VK->Prop}
def tCB (r:List V->Hp->VK->Prop)(t:TA):TE:=fun σ H Q=>t σ H fun vs H1=>r vs H1 Q
theorem zB (hc:ZK X (.builtin id) r)(hg:Gl X x)(hm:X.mg x=none)(hv:bootBuiltins x=some (.builtin id))(ha:PA X (e::es) t)(hn:x ≠ "__name__" := by decide)(hdb:(x==("__debug__" : Str))=false:=by decide)
  (he:starEach (e::es) X.env=(false,eval e X.env)::starEach es X.env:=by rfl)(hpl:(backTo pos (starEach es X.env)).any (·.1)=false:=by rfl):PE X (.Call (.Name x p) (e::es) [] pos) (tCB r t):=by
 intro pins s σ H Q I h
 refine wpAny_Call_Name_kw (Wd I hg hm hv ?_ hn hdb)
 exact PyProof.Rows.callWith_builtin1 (wD (ha pos pins s σ H _ I h) fun us s1 ⟨vs,H1,I1,r1,q1⟩=>hc pins s1 σ H1 vs us Q I1 r1 q1) he hpl
theorem wF (hc:ZK X (.type T) r)(hg:Gl X x)(hm:X.mg x=none)(hv:bootBuiltins x=some (.type T))(ha:PA X (e::es) t)(hn:x ≠ "__name__" := by decide)(hdb:(x==("__debug__" : Str))=false:=by decide)
  (he:starEach (e::es) X.env=(false,eval e X.env)::starEach es X.env:=by rfl)(hpl:(backTo pos (starEach es X.env)).any (·.1)=false:=by rfl):PE X (.Call (.Name x p) (e::es) [] pos) (tCB r t):=by
 intro pins s σ H Q I h
 refine wpAny_Call_Name_kw (Wd I hg hm hv ?_ hn hdb)
 exact PyProof.Rows.callWith_type1 (wD (ha pos pins s σ H _ I h) fun us s1 ⟨vs,H1,I1,r1,q1⟩=>hc pins s1 σ H1 vs us Q I1 r1 q1) he hpl
end
end L2
namespace HT
open PySem PyProof.Rows
section
variable {prog:Program}{w:World}{A:Around}{E:Value->Shared->Prop}{s:Shared}
def ZL (n d:Nat):Option Int->Nat
 | none=>d
 | some v=>if v<0 then (v+(n:Int)).toNat else min v.toNat n
theorem zaC (n d:Nat):ZL n d none=d:=rfl
theorem Qg (n d k:Nat):ZL n d (some (k:Int))=min k n:=by
 show(if (k:Int)<0 then ((k:Int)+(n:Int)).toNat else min (k:Int).toNat n)=min k n
 rw[if_neg (by omega),ztP]
theorem zmd (n d:Nat)(hd:d<=n)(o:Option Int):ZL n d o<=n:=by
 cases o with
 | none=>exact hd
 | some v =>
  show(if v<0 then (v+(n:Int)).toNat else min v.toNat n)<=n
  by_cases hv:v<0
  ·rw[if_pos hv];omega
  ·rw[if_neg hv];exact Nat.min_le_right _ _
theorem zgQ (v:Int)(n d:Nat):(if v<0 then max (v+(n:Int)) 0 else min v (n:Int))=((ZL n d (some v):Nat):Int):=by
 show(if v<0 then max (v+(n:Int)) 0 else min v (n:Int))=(((if v<0 then (v+(n:Int)).toNat else min v.toNat n):Nat):Int)
 by_cases hv:v<0
 ·simp only[if_pos hv];omega
 ·simp only[if_neg hv];omega
theorem zfP (lo hi:Option Int)(n:Nat):Builtin.Slice.sliceAdjust lo hi 1 (n:Int)=(((ZL n 0 lo:Nat):Int),((ZL n n hi:Nat):Int)):=by
 have h1:¬((1:Int)<0):=by omega
 unfold Builtin.Slice.sliceAdjust
 simp only[h1,if_false]
 refine Prod.ext ?_ ?_
 ·cases lo with
  | none=>rfl
  | some v=>exact zgQ v n 0
 ·cases hi with
  | none=>rfl
  | some v=>exact zgQ v n n
theorem zfQ (i j:Nat):Builtin.Slice.slicePlaces (i:Int) (j:Int) 1=j-i:=by
 unfold Builtin.Slice.slicePlaces
 have h1:(1:Int) > 0:=by omega
 simp only[h1,if_true,Int.ediv_one]
 split<;>omega
theorem zaD {v:Value}{o:Option Int}{Q:Option Int->Shared->Prop}(p:IsPart v o)(h:Q o s):wpAny (model prog w) A (Builtin.Slice.slicePartIndex v) Q E s:=by
 cases p with
 | none=>exact slicePart_none h
 | int i t=>exact slicePart_int h
theorem Kg {sl:Addr}{vl vu:Value}{lo hi:Option Int}{n:Nat}{Q:Int×Int×Nat->Shared->Prop}(hs:s.heap.IsSliceOf sl vl vu .none)(pl:IsPart vl lo)(pu:IsPart vu hi)
  (h:Q (((ZL n 0 lo:Nat):Int),1,ZL n n hi-ZL n 0 lo) s):wpAny (model prog w) A (Builtin.Slice.sliceApplied (.ref sl) (pure (n:Int))) Q E s:=by
 obtain⟨os,hos,hcs,hds⟩:=id hs
 unfold Builtin.Slice.sliceApplied Builtin.Slice.sliceFields
 refine wpAny_bind (wpAny_bind (wpAny_field hos hds (x:=vl) rfl (wpAny_bind (wpAny_field hos hds (x:=vu) rfl (wpAny_bind (wpAny_field hos hds (x:=.none) rfl (wpAny_pure ?_)))))))
 refine wpAny_bind (slicePart_none ?_)
 show wpAny _ _ (if ((1:Int)==0)=true then _ else _) _ _ s
 rw[if_neg (by decide)]
 refine wpAny_bind (zaD pl (wpAny_bind (zaD pu (wpAny_bind (wpAny_pure ?_)))))
 show wpAny _ _ (match Builtin.Slice.sliceAdjust lo hi 1 (n:Int) with | (lo,hi)=>pure (lo,(1:Int),Builtin.Slice.slicePlaces lo hi 1)) _ _ s
 rw[zfP lo hi n]
 show wpAny _ _ (pure (((ZL n 0 lo:Nat):Int),(1:Int),Builtin.Slice.slicePlaces ((ZL n 0 lo:Nat):Int) ((ZL n n hi:Nat):Int) 1)) _ _ s
 rw[zfQ]
 exact wpAny_pure h
theorem ziA (xs:Array Value)(i k:Nat):((List.range k).filterMap fun(m:Nat)=>xs[((i:Int)+(m:Int)*1).toNat]?).toArray=((xs.toList.drop i).take k).toArray:=by
 have e:(fun(m:Nat)=>xs[((i:Int)+(m:Int)*1).toNat]?)=fun m=>xs[i+m]?:=by
  funext m
  have:((i:Int)+(m:Int)*1).toNat=i+m:=by omega
  rw[this]
 rw[e]
 have:=pick_run xs i k
 rw[List.filterMap_map] at this
 have e2:((fun x=>xs[x]?) ∘ fun x=>i+x)=fun m=>xs[i+m]?:=rfl
 rw[e2] at this
 rw[this]
theorem Mp {t sl:Addr}{items:Array Value}{vl vu:Value}{lo hi:Option Int}{Q:Value->Shared->Prop}(ht:IsTup s.heap t items)(hs:s.heap.IsSliceOf sl vl vu .none)(pl:IsPart vl lo)(pu:IsPart vu hi)
  (hw:¬(ZL items.size 0 lo=0/\ZL items.size items.size hi=items.size))
  (h:Q (.ref s.heap.objs.size) { s with heap:=s.heap.push { cls:=.type "tuple", data:=.seq ((items.toList.drop (ZL items.size 0 lo)).take (ZL items.size items.size hi-ZL items.size 0 lo)).toArray } })
  (hsz:items.size<=sizeLine):wpAny (model prog w) A (getItem (.ref t) (.ref sl)) Q E s:=by
 have zgR:sizeOk (.seq ((items.toList.drop (ZL items.size 0 lo)).take (ZL items.size items.size hi-ZL items.size 0 lo)).toArray):=by
  show((items.toList.drop (ZL items.size 0 lo)).take (ZL items.size items.size hi-ZL items.size 0 lo)).toArray.size<=sizeLine
  rw[ztm,ztA,List.length_drop,Array.length_toList]
  omega
 have hj:ZL items.size items.size hi<=items.size:=zmd _ _ (zts _) hi
 obtain⟨os,hos,hcs,hds⟩:=id hs
 have hTs:s.TypeIs (.ref sl) "slice" := ⟨os,hos,hcs⟩
 unfold getItem
 try with_reducible refine wpAny_holding ?_
 first | refine wpAny_bind (wpAny_pure ?_) | skip
 refine wpAny_bind (wpAny_sequenceKey ht.typeIs (by decide) ?_)
 refine wpAny_bind (wpAny_callSpecial?_slot (name:=Str.ofString "__getitem__") ht.typeIs PyProof.Rows.slot_tuple_getitem
  (wpAny_call_entry PyProof.Rows.slot_tuple_getitem ht.typeIs entry_tuple_getitem ?_ (args_tuple_getitem _ _)))
 show wpAny _ _ (Builtin.Tuple.tupleItemsOf (.ref t)>>=_) _ _ s
 refine wpAny_bind (tupleItemsOf_ ht ?_)
 refine wpAny_bind (wpAny_typeOf hTs ?_)
 rw[if_pos (by decide)]
 refine wpAny_bind (Kg hs pl pu ?_)
 have hno:¬((((ZL items.size 0 lo:Nat):Int)==0&&(1:Int)==1&&(ZL items.size items.size hi-ZL items.size 0 lo)==items.size)=true):=by
  intro q
  rw[ztE,ztE] at q
  have q1:((ZL items.size 0 lo:Nat):Int)=0:=eq_of_beq q.1.1
  have q2:ZL items.size items.size hi-ZL items.size 0 lo=items.size:=eq_of_beq q.2
  exact hw ⟨by omega,by omega⟩
 show wpAny _ _ (if (((ZL items.size 0 lo:Nat):Int)==0&&(1:Int)==1&&(ZL items.size items.size hi-ZL items.size 0 lo)==items.size)=true then _ else _) _ _ s
 rw[if_neg hno,ziA]
 first
  | exact wpAny_bind (m:=Builtin.Tuple.tupleExact _) (wpAny_newObj_type (wpAny_pure ⟨_,rfl,wpAny_pure h⟩) zgR)
  | exact wpAny_bind (m:=Builtin.Tuple.tupleExact _) (wpAny_newObj_type (wpAny_bind (wpAny_pure (wpAny_pure ⟨_,rfl,wpAny_pure h⟩))) zgR)
  | exact wpAny_bind (wpAny_bind (m:=Builtin.Tuple.tupleExact _) (wpAny_newObj_type (wpAny_pure (wpAny_pure ⟨_,rfl,wpAny_pure h⟩)) zgR))
  | exact wpAny_bind (wpAny_bind (m:=Builtin.Tuple.tupleExact _) (wpAny_newObj_type (wpAny_pure ⟨_,rfl,wpAny_pure h⟩) zgR))
end
end HT
namespace L2
open PySem PySem.Spec PyProof.Rows
abbrev TO:=St->Hp->(Option Int->Hp->Prop)->Prop
def PO (X:Cx)(e:Option Expr)(t:TO):Prop :=
 ∀(pins:List (Addr×Obj)) (s:Shared) (σ:St) (H:Hp) (Q:Option Int->Hp->Prop),Inv X pins σ H s->t σ H Q ->
  wpAny (model X.prog X.w) X.A (evalPart e X.env) (fun u s'=>∃o H',Inv X pins σ H' s'/\IsPart u o/\Q o H') X.xe s
def zkd:TO:=fun _ H Q=>Q none H
def znm (t:TE):TO:=fun σ H Q=>t σ H fun x H1=>∃i,x=.int i/\Q (some i) H1
section
variable {X:Cx}{e:Expr}{te:TE}{lo hi:Option Expr}{tl th:TO}{pos p2:Pos}
theorem uV:PO X none zkd:=by
 intro pins s σ H Q I h
 rw[evalPart_none]
 exact wpAny_pure ⟨none,H,I,.none,h⟩
theorem vL (h:PE X e te):PO X (some e) (znm te):=by
 intro pins s σ H Q I hw
 rw[evalPart_some]
 refine wD (h pins s σ H _ I hw) fun u s1 ⟨x,H1,I1,r1,q1⟩=>?_
 obtain⟨i,rfl,q⟩:=q1
 obtain⟨t,rfl⟩:=r1
 exact⟨some i,H1,I1,.int i t,q⟩
def SlR (X:Cx)(r:V->Option Int->Option Int->Hp->VK->Prop):Prop :=
 ∀(pins:List (Addr×Obj)) (s:Shared) (σ:St) (H:Hp) (x:V) (v vl vu:Value) (lo hi:Option Int) (sl:Addr) (Q:VK),Inv X pins σ H s->RelV x v->s.heap.IsSliceOf sl vl vu .none->IsPart vl lo->IsPart vu hi->r x lo hi H Q ->
  ∃T id,typeLookup (.type T) "__getitem__"=pure (some (.builtin id))/\s.TypeIs v T/\wpAny (model X.prog X.w) X.A (getItem v (.ref sl)) (EP X pins σ Q) X.xe s
def tSl (r:V->Option Int->Option Int->Hp->VK->Prop)(te:TE)(tl th:TO):TE:=fun σ H Q=>te σ H fun x H1=>tl σ H1 fun l H2=>th σ H2 fun u H3=>r x l u H3 Q
theorem wK {r:V->Option Int->Option Int->Hp->VK->Prop}(hr:SlR X r)(he:PE X e te)(hl:PO X lo tl)(hu:PO X hi th):PE X (.Subscript e (.Slice lo hi none p2) pos) (tSl r te tl th):=by
 intro pins s σ H Q I h
 refine Subscript_ (wD (he pins s σ H _ I h) fun v s1 ⟨x,H1,I1,r1,q1⟩=>?_)
 refine wpAny_Slice (wD (hl pins s1 σ H1 _ I1 q1) fun vl s2 ⟨l,H2,I2,pl,q2⟩=>wD (hu pins s2 σ H2 _ I2 q2) fun vu s3 ⟨u,H3,I3,pu,q3⟩=>?_)
 rw[evalPart_none]
 refine wpAny_pure ?_
 have I4:Inv X pins σ H3 { s3 with heap:=s3.heap.push { cls:=.type "slice", data:=.fields #[vl,vu,.none] } }:=I3.kept (t':=s3.toks) fun b ob q=>zti _ q
 obtain⟨T,id,hT,ht,hg⟩:=hr pins { s3 with heap:=s3.heap.push { cls:=.type "slice", data:=.fields #[vl,vu,.none] } } σ H3 x v vl vu l u s3.heap.objs.size Q I4 r1 (Heap.IsSliceOf.new ..) pl pu q3
 show wpAny (model X.prog X.w) X.A (subscriptTail e (.Slice lo hi none p2) v (.ref s3.heap.objs.size)) (EP X pins σ Q) X.xe { s3 with heap:=s3.heap.push { cls:=.type "slice", data:=.fields #[vl,vu,.none] } }
 exact tail_any (ops:=[.ref s3.heap.objs.size,v]) ht hT hg (by with_unfolding_all rfl)
def QV (xs:List V)(lo hi:Option Int):List V:=(xs.drop (HT.ZL xs.length 0 lo)).take (HT.ZL xs.length xs.length hi-HT.ZL xs.length 0 lo)
theorem Je (xs:List V)(lo hi:Option Int):(QV xs lo hi).length<=xs.length:=by
 unfold QV
 rw[ztA,List.length_drop]
 omega
def zo9 (K:Frag):V->Option Int->Option Int->Hp->VK->Prop:=fun x lo hi H Q=>∃a xs,x=.ref a/\wY K H a xs /\
 ¬(HT.ZL xs.length 0 lo=0/\HT.ZL xs.length xs.length hi=xs.length)/\∀p,H p=none->Q (.ref p) (upd H p (.tup (QV xs lo hi)))
theorem ziB:SlR X (zo9 X.K):=by
 intro pins s σ H x v vl vu lo hi sl Q I rx hs pl pu h
 obtain⟨a,xs,rfl,hx,hw,q⟩:=h
 cases rx
 obtain⟨its,r,ht,hz⟩:=I.tuple hx
 have hlen:its.toArray.size=xs.length:=by rw[ztm];exact r.length.symm
 refine⟨"tuple", _,PyProof.Rows.slot_tuple_getitem.lookup,ht.typeIs,?_⟩
 refine HT.Mp ht hs pl pu (by rw[hlen];exact hw) ?_ (by rw[hlen];exact hz)
 rw[hlen]
 refine⟨.ref s.heap.objs.size,_,I.laid (t':=s.toks) (o:=.tup (QV xs lo hi)) (fun b ob q=>zti _ q) (zts _) ?_,rfl,q _ (I.hok.fresh (zts _))⟩
 exact⟨zty (Je xs lo hi) hz,_,(r.drop (HT.ZL xs.length 0 lo)).take (HT.ZL xs.length xs.length hi-HT.ZL xs.length 0 lo),IsTup.new _ _⟩
end
def ixN (n:Nat)(i:Int):Option Nat:=if 0<=i then (if i<n then some i.toNat else none) else if -(n:Int)<=i then some (i+n).toNat else none
def atI {α:Type}(xs:List α)(i:Int):Option α:=(ixN xs.length i).bind fun j=>xs[j]?
theorem zac {n:Nat}{i:Int}{j:Nat}(h:ixN n i=some j):seqIndex? i n=some j/\j<n/\-(n:Int)<=i/\i<n:=by
 unfold ixN at h
 by_cases h0:0<=i
 ·rw[if_pos h0] at h
  by_cases h1:i<n
  ·rw[if_pos h1] at h
   have e:i.toNat=j:=ztH h
   exact⟨by rw[seqIndex_of h0 h1,e],by omega,by omega,h1⟩
  ·rw[if_neg h1] at h;cases h
 ·rw[if_neg h0] at h
  by_cases h1:-(n:Int)<=i
  ·rw[if_pos h1] at h
   have e:(i+n).toNat=j:=ztH h
   exact⟨by rw[seqIndex_neg (by omega) h1,e],by omega,h1,by omega⟩
  ·rw[if_neg h1] at h;cases h
theorem zcW {α:Type}{xs:List α}{i:Int}{v:α}(h:atI xs i=some v):∃j,seqIndex? i xs.length=some j/\xs[j]?=some v/\j<xs.length/\-(xs.length:Int)<=i/\i<xs.length:=by
 unfold atI at h
 cases e:ixN xs.length i with
 | none=>rw[e] at h;cases h
 | some j =>
  rw[e] at h
  obtain⟨h1,h2,h3,h4⟩:=zac e
  exact⟨j,h1,h,h2,h3,h4⟩
theorem yC {α:Type}{xs:List α}{j:Nat}{v:α}(h:xs[j]?=some v):atI xs (j:Int)=some v:=by
 have hj:j<xs.length:=(ztf.mp h).1
 have e:ixN xs.length (j:Int)=some j:=by
  unfold ixN
  rw[if_pos (by omega),if_pos (by omega)];simp
 unfold atI;rw[e];exact h
def zke (b:Expr):Prop:=∀o i,subscripted b false o i=operate [o,i] (getItem o i)
def IxR (X:Cx)(r:R2):Prop :=
 ∀(value slice:Expr) (pins:List (Addr×Obj)) (s:Shared) (σ:St) (H:Hp) (x y:V) (v u:Value) (Q:VK),Inv X pins σ H s->RelV x v->RelV y u->r x y H Q ->
  subscripted slice false v u=operate [v,u] (getItem v u)->wpAny (model X.prog X.w) X.A (subscriptTail value slice v u) (EP X pins σ Q) X.xe s
def MtR (X:Cx)(id:String)(r:V->List V->Hp->VK->Prop):Prop :=
 ∀(pins:List (Addr×Obj)) (s:Shared) (σ:St) (H:Hp) (x:V) (xs:List V) (v:Value) (us:List Value) (Q:VK),Inv X pins σ H s->RelV x v->Vals xs us->r x xs H Q ->
  wpAny (model X.prog X.w) X.A (call (.builtin id) (v::us)) (EP X pins σ Q) X.xe s
section
variable {X:Cx}{a b:Expr}{ta tb:TE}{pos:Pos}
theorem z8 {r:R2}(hr:IxR X r)(ha:PE X a ta)(hb:PE X b tb)(hs:zke b):PE X (.Subscript a b pos) (tOp r ta tb):=by
 intro pins s σ H Q I h
 exact Subscript_ (zl5 ha hb I h fun v u s2 x y H2 I2 rx ry q=>hr a b pins s2 σ H2 x y v u Q I2 rx ry q (hs _ _))
def zkf (K:Frag):R2:=fun x y H Q=>∃p xs i v,x=.ref p/\y=.int i/\zP K H p xs/\atI xs i=some v/\Q v H
def zpa (K:Frag):R2:=fun x y H Q=>∃p xs i v,x=.ref p/\y=.int i/\wY K H p xs/\atI xs i=some v/\Q v H
def zpb:R2:=fun x y H Q=>∃z i c,x=.str z/\y=.int i/\z.length<=sizeLine/\atI z.cps.toList i=some c/\Q (.str ⟨#[c]⟩) H
theorem yd:IxR X (zkf X.K):=by
 intro value slice pins s σ H x y v u Q I rx ry h hs
 obtain⟨p,xs,i,z,rfl,rfl,hq,he,q⟩:=h
 cases rx
 obtain⟨t,rfl⟩:=ry
 obtain⟨its,r,pl,hz⟩:=I.list hq
 obtain⟨j,h1,h2,h3,h4,h5⟩:=zcW he
 obtain⟨w,ew,rw'⟩:=r.get h2
 have hl:=r.length
 have hn:=Uv
 have fin:EP X pins σ Q w s:=⟨z,H,I,rw',q⟩
 by_cases h0:0<=i
 ·have hj:i.toNat=j:=by
   rw[seqIndex_of h0 h5] at h1
   exact ztH h1
  exact item_listR pl.isList h0 (by omega) (by rw[hj];simpa using ew) fin hs
 ·have hj:(i+(its.toArray.size:Int)).toNat=j:=by
   rw[seqIndex_neg (by omega) h4] at h1
   rw[ztm,<-hl]
   exact ztH h1
  exact subscriptTail_builtinR (x:=w) pl.isList.typeIs slot_list_getitem.lookup
   (wpAny_getItem_list_neg (Q:=fun r s'=>r=w/\EP X pins σ Q r s') pl.isList (by omega) (by rw[ztm]<;>omega) (by omega) (by rw[hj];simpa using ew) ⟨rfl,fin⟩) hs
theorem vd:IxR X (zpa X.K):=by
 intro value slice pins s σ H x y v u Q I rx ry h hs
 obtain⟨p,xs,i,z,rfl,rfl,hq,he,q⟩:=h
 cases rx
 obtain⟨t,rfl⟩:=ry
 obtain⟨its,r,pl,hz⟩:=I.tuple hq
 obtain⟨j,h1,h2,h3,h4,h5⟩:=zcW he
 obtain⟨w,ew,rw'⟩:=r.get h2
 have hl:=r.length
 have hn:=Uv
 have fin:EP X pins σ Q w s:=⟨z,H,I,rw',q⟩
 exact subscriptTail_builtinR (x:=w) pl.typeIs slot_tuple_getitem.lookup
  (getItem_tuple (j:=j) (Q:=fun r s'=>r=w/\EP X pins σ Q r s') pl (by omega) (by omega) (by rw[ztm,<-hl];exact h1) (by simpa using ew) ⟨rfl,fin⟩) hs
theorem PN:IxR X zpb:=by
 intro value slice pins s σ H x y v u Q I rx ry h hs
 obtain⟨z,i,c,rfl,rfl,hz,he,q⟩:=h
 obtain⟨t,rfl⟩:=rx
 obtain⟨t',rfl⟩:=ry
 obtain⟨j,h1,h2,h3,h4,h5⟩:=zcW he
 have hl:z.cps.toList.length=z.length:=by simp[Str.length]
 rw[hl] at h1 h4 h5
 have hn:=Uv
 exact tail_any (typeIs_str s z t) slot_str_getitem.lookup (getItem_str (c:=c) (by
  have e1:decide (i < -(2^63:Int))=false:=decide_eq_false (by omega)
  have e2:decide (i >= 2^63)=false:=decide_eq_false (by omega)
  rw[e1,e2,Bool.or_false]) (by rw[h1];simpa using h2) ⟨.str ⟨#[c]⟩,H,I.tok _,⟨_,rfl⟩,q⟩) hs
theorem zfR (its:List Value)(n j:Nat)(u:Value):Obj.mapSeq (·.setIfInBounds j u) { cls:=.type "list", data:=.seq its.toArray n }={ cls:=.type "list", data:=.seq (its.set j u).toArray n }:=by
 simp[Obj.mapSeq]
theorem Inv.lst {pins:List (Addr×Obj)}{σ:St}{H:Hp}{s:Shared}{p:Addr}{xs:List V}(I:Inv X pins σ H s)(h:H p=some (.lst xs)) :
  ∃(its:List Value) (n:Nat),Vals xs its/\s.heap.get? p=some { cls:=.type "list", data:=.seq its.toArray n }/\xs.length<=sizeLine:=by
 obtain⟨z,its,n,r,e⟩:=I.hok p _ h
 exact⟨its,n,r,e,z⟩
theorem Inv.zme {pins:List (Addr×Obj)}{σ:St}{H:Hp}{s:Shared}{p:Addr}{xs ys:List V}{its its':List Value}{n n':Nat}{f:Obj->Obj}(I:Inv X pins σ H s)(h:H p=some (.lst xs))
  (ho:s.heap.get? p=some { cls:=.type "list", data:=.seq its.toArray n })(hf:f { cls:=.type "list", data:=.seq its.toArray n }={ cls:=.type "list", data:=.seq its'.toArray n' })(r:Vals ys its')(hz:ys.length<=sizeLine)(t:Nat) :
  Inv X pins σ (upd H p (.lst ys)) { s with heap:=s.heap.update p f,toks:=t }:=by
 have e:(s.heap.update p f).get? p=some { cls:=.type "list", data:=.seq its'.toArray n' }:=by
  rw[Heap.get?_update_self f ho (by rw[hf]<;>rfl),hf]
 refine I.write (x:=p) (e:=p) (by rw[h];trivial) (.inl rfl) (fun b u hb q=>(Heap.get?_update_other _ _ (Ne.symm hb)).trans q) ⟨_,e⟩ ?_
 exact⟨hz,its',n',r,e⟩
def znn:V->V->V->Hp->(Hp->Prop)->Prop:=fun o i v H Q=>∃p xs k j,o=.ref p/\i=.int k/\H p=some (.lst xs)/\ixN xs.length k=some j/\Q (upd H p (.lst (xs.set j v)))
theorem set_list:znb X znn:=by
 intro pins s σ H o i v ov iv u Q I ro ri rv h
 obtain⟨p,xs,k,j,rfl,rfl,hp,hj,q⟩:=h
 cases ro
 obtain⟨t,rfl⟩:=ri
 obtain⟨its,n,r,ho,hz⟩:=I.lst hp
 obtain⟨h1,h2,h3,h4⟩:=zac hj
 have hl:=r.length
 have hn:=Uv
 have I':Inv X pins σ (upd H p (.lst (xs.set j v))) { s with heap:=s.heap.update p (Obj.mapSeq (·.setIfInBounds j u)) } :=
  I.zme hp ho (zfR its n j u) (r.set rv j) (by rw[List.length_set];exact hz) s.toks
 by_cases h0:0<=k
 ·have hk:k.toNat=j:=by
   rw[seqIndex_of h0 h4] at h1
   exact ztH h1
  exact PySem.W.ki_setAt ho h0 (by omega) (by rw[ztm,<-hl];exact h4) (by rw[hk];exact⟨_,I',q⟩)
 ·have hk:(k+(its.toArray.size:Int)).toNat=j:=by
   rw[seqIndex_neg (by omega) h3] at h1
   rw[ztm,<-hl]
   exact ztH h1
  exact PySem.W.ki_setBack ho (by omega) (by rw[ztm,<-hl];exact h3) (by omega) (by rw[hk];exact⟨_,I',q⟩)
theorem zcX (lo hi:Option Int)(n:Nat):(sliceBounds lo hi none n).1=((HT.ZL n 0 lo:Nat):Int)/\(sliceBounds lo hi none n).2.1=((HT.ZL n n hi:Nat):Int)/\(sliceBounds lo hi none n).2.2=1:=by
 refine⟨?_,?_,rfl⟩
 ·cases lo with
  | none=>simp[sliceBounds,HT.ZL]
  | some i =>
   simp only[sliceBounds,HT.ZL,Option.getD_none,show(1:Int) > 0 by decide,if_true]
   by_cases h:i<0
   ·simp only[h,if_true]<;>omega
   ·simp only[h,if_false]<;>omega
 ·cases hi with
  | none=>simp[sliceBounds,HT.ZL]
  | some i =>
   simp only[sliceBounds,HT.ZL,Option.getD_none,show(1:Int) > 0 by decide,if_true]
   by_cases h:i<0
   ·simp only[h,if_true]<;>omega
   ·simp only[h,if_false]<;>omega
theorem zbH (its:List Value)(lo hi:Option Int):slicePick its.toArray lo hi none=((its.drop (HT.ZL its.length 0 lo)).take (HT.ZL its.length its.length hi-HT.ZL its.length 0 lo)).toArray:=by
 obtain⟨h1,h2,h3⟩:=zcX lo hi its.toArray.size
 unfold slicePick
 rw[h1,h2,h3]
 simp only[sliceRange_one,pick_run,ztm]<;>rfl
def zpc (K:Frag):V->Option Int->Option Int->Hp->VK->Prop:=fun x lo hi H Q=>∃a xs,x=.ref a/\zP K H a xs/\∀p,H p=none->Q (.ref p) (upd H p (.lst (QV xs lo hi)))
theorem zad:SlR X (zpc X.K):=by
 intro pins s σ H x v vl vu lo hi sl Q I rx hs pl pu h
 obtain⟨a,xs,rfl,hx,q⟩:=h
 cases rx
 obtain⟨its,r,ht,hz⟩:=I.list hx
 have hlen:=r.length
 refine⟨"list", _,slot_list_getitem.lookup,ht.isList.typeIs,?_⟩
 refine wpAny_getItem_list_slice ht.isList hs pl pu .none (by simp) ?_ (by rw[ztm]<;>omega)
 rw[zbH,<-hlen]
 refine⟨.ref s.heap.objs.size,_,I.laid (t':=s.toks) (o:=.lst (QV xs lo hi)) (fun b ob q=>zti _ q) (zts _) ?_,rfl,q _ (I.hok.fresh (zts _))⟩
 exact⟨zty (Je xs lo hi) hz,_,0,(r.drop (HT.ZL xs.length 0 lo)).take (HT.ZL xs.length xs.length hi-HT.ZL xs.length 0 lo),ztx _ rfl⟩
def wC:V->Bool
 | .non=>true
 | .bl _=>true
 | .int _=>true
 | .str _=>true
 | _=>false
def eqV:V->V->Bool
 | .non,.non=>true
 | .bl a,.bl b=>a==b
 | .bl a,.int b=>(if a then 1 else 0)==b
 | .int a,.bl b=>a==(if b then 1 else 0)
 | .int a,.int b=>a==b
 | .str a,.str b=>a==b
 | _,_=>false
theorem ziC {A:Around}{s:Shared}{y x:V}{u v:Value}(ry:RelV y u)(rx:RelV x v)(fy:wC y=true)(fx:wC x=true):SeqAt.EqAt A s u v (eqV y x):=by
 cases y with
 | non =>
  cases ry
  cases x with
  | non=>cases rx;exact SeqAt.EqAt.same _
  | bl b=>cases rx;exact SeqAt.EqAt.none_bool b
  | int b=>obtain⟨t,rfl⟩:=rx;exact SeqAt.EqAt.none_int b t
  | str b=>obtain⟨t,rfl⟩:=rx;exact SeqAt.EqAt.none_str b t
  | _=>exact absurd (show false=true from fx) ztg
 | bl a =>
  cases ry
  cases x with
  | non=>cases rx;exact SeqAt.EqAt.bool_none a
  | bl b=>cases rx;exact SeqAt.EqAt.bool_bool a b
  | int b=>obtain⟨t,rfl⟩:=rx;exact SeqAt.EqAt.bool_int a b t
  | str b=>obtain⟨t,rfl⟩:=rx;exact SeqAt.EqAt.bool_str a b t
  | _=>exact absurd (show false=true from fx) ztg
 | int a =>
  obtain⟨t',rfl⟩:=ry
  cases x with
  | non=>cases rx;exact SeqAt.EqAt.int_none a t'
  | bl b=>cases rx;exact SeqAt.EqAt.int_bool a t' b
  | int b=>obtain⟨t,rfl⟩:=rx;exact SeqAt.EqAt.int_int a t' b t
  | str b=>obtain⟨t,rfl⟩:=rx;exact SeqAt.EqAt.int_str a t' b t
  | _=>exact absurd (show false=true from fx) ztg
 | str a =>
  obtain⟨t',rfl⟩:=ry
  cases x with
  | non=>cases rx;exact SeqAt.EqAt.str_none a t'
  | bl b=>cases rx;exact SeqAt.EqAt.str_bool a t' b
  | int b=>obtain⟨t,rfl⟩:=rx;exact SeqAt.EqAt.str_int a t' b t
  | str b=>obtain⟨t,rfl⟩:=rx;exact SeqAt.EqAt.str_str a t' b t
  | _=>exact absurd (show false=true from fx) ztg
 | _=>exact absurd (show false=true from fy) ztg
def eqU (x:V)(u:Value):Bool:=match u with
 | .none=>eqV .non x
 | .bool b=>eqV (.bl b) x
 | .int i _=>eqV (.int i) x
 | .str z _=>eqV (.str z) x
 | _=>false
theorem zcY {x y:V}{u:Value}(r:RelV y u)(f:wC y=true):eqU x u=eqV y x:=by
 cases y with
 | non=>cases r;rfl
 | bl b=>cases r;rfl
 | int i=>obtain⟨t,rfl⟩:=r;rfl
 | str z=>obtain⟨t,rfl⟩:=r;rfl
 | _=>exact absurd (show false=true from f) ztg
theorem Mq {x:V}:∀{xs:List V} {us:List Value},Vals xs us->xs.all wC=true->us.any (eqU x)=xs.any fun y=>eqV y x
 | _,_,.nil,_=>rfl
 | y::xs,u::us,.cons r t,f=>by
  rw[List.all_cons,ztE] at f
  rw[List.any_cons,List.any_cons,zcY r f.1,Mq t f.2]
theorem V3 {A:Around}{s:Shared}{x:V}{v:Value}(rx:RelV x v)(fx:wC x=true):∀{xs:List V} {us:List Value},Vals xs us->xs.all wC=true->∀u∈us,SeqAt.EqAt A s u v (eqU x u)
 | _,_,.nil,_=>fun u hu=>by cases hu
 | y::xs,u::us,.cons r t,f=>fun u' hu=>by
  rw[List.all_cons,ztE] at f
  rcases List.mem_cons.mp hu with rfl | hu
  ·rw[zcY r f.1];exact ziC r rx f.1 fx
  ·exact V3 rx fx t f.2 u' hu
def inV (x:V)(xs:List V):Bool:=xs.any fun y=>eqV y x
def rIn (K:Frag)(neg:Bool):R2:=fun x y H Q=>∃p xs,y=.ref p/\(zP K H p xs\/wY K H p xs)/\wC x=true/\xs.all wC=true/\Q (.bl (if neg then !inV x xs else inV x xs)) H
theorem Qh:Uu X (compareOp .In) (rIn X.K false):=by
 intro pins s σ H x y v u Q I rx ry h
 obtain⟨p,xs,rfl,hq,fx,fs,q⟩:=h
 cases ry
 rcases hq with hq | hq
 ·obtain⟨its,r,pl,hz⟩:=I.list hq
  refine SeqAt.in_listAt (eqU x) pl.isList (fun w hw=>V3 rx fx r fs w (by simpa using hw)) ⟨.bl _,H,I,rfl,?_⟩
  rw[show its.toArray.any (eqU x)=its.any (eqU x) by simp,Mq r fs]
  exact q
 ·obtain⟨its,r,pl,hz⟩:=I.tuple hq
  refine SeqAt.in_tupleAt (eqU x) pl (fun w hw=>V3 rx fx r fs w (by simpa using hw)) ⟨.bl _,H,I,rfl,?_⟩
  rw[show its.toArray.any (eqU x)=its.any (eqU x) by simp,Mq r fs]
  exact q
theorem Mr:Uu X (compareOp .NotIn) (rIn X.K true):=by
 intro pins s σ H x y v u Q I rx ry h
 obtain⟨p,xs,rfl,hq,fx,fs,q⟩:=h
 cases ry
 rcases hq with hq | hq
 ·obtain⟨its,r,pl,hz⟩:=I.list hq
  refine SeqAt.notIn_listAt (eqU x) pl.isList (fun w hw=>V3 rx fx r fs w (by simpa using hw)) ⟨.bl _,H,I,rfl,?_⟩
  rw[show its.toArray.any (eqU x)=its.any (eqU x) by simp,Mq r fs]
  exact q
 ·obtain⟨its,r,pl,hz⟩:=I.tuple hq
  refine SeqAt.notIn_tupleAt (eqU x) pl (fun w hw=>V3 rx fx r fs w (by simpa using hw)) ⟨.bl _,H,I,rfl,?_⟩
  rw[show its.toArray.any (eqU x)=its.any (eqU x) by simp,Mq r fs]
  exact q
theorem zy:ZK X (.builtin "len") (fun xs H Q=>∃p ys,xs=[.ref p]/\(zP X.K H p ys\/wY X.K H p ys)/\Q (.int ys.length) H):=by
 intro pins s σ H xs us Q I r h
 obtain⟨p,ys,rfl,hq,q⟩:=h
 obtain⟨u,rfl,rx⟩:=vals1 r
 cases rx
 have hn:=Uv
 rcases hq with hq | hq
 ·obtain⟨its,r',pl,hz⟩:=I.list hq
  have hlen:=r'.length
  exact Calls.call_len_list pl.isList (by simp only[ztm]<;>omega) ⟨.int ys.length,H,I.tok _,⟨s.toks+1,by rw[ztm,hlen]⟩,q⟩
 ·obtain⟨its,r',pl,hz⟩:=I.tuple hq
  have hlen:=r'.length
  exact len_tuple pl (by simp only[ztm]<;>omega) ⟨.int ys.length,H,I.tok _,⟨s.toks+1,by rw[ztm,hlen]⟩,q⟩
theorem ZM:ZK X (.builtin "len") (fun xs H Q=>∃z,xs=[.str z]/\z.length<=sizeLine/\Q (.int z.length) H):=by
 intro pins s σ H xs us Q I r h
 obtain⟨z,rfl,hz,q⟩:=h
 obtain⟨u,rfl,t,rfl⟩:=vals1 r
 have hn:=Uv
 exact len_str (by omega) ⟨.int z.length,H,I.tok _,⟨_,rfl⟩,q⟩
theorem Ms:ZK X (.type "list") (fun xs H Q=>∃p ys,xs=[.ref p]/\(zP X.K H p ys\/wY X.K H p ys)/\∀l,H l=none->Q (.ref l) (upd H l (.lst ys))):=by
 intro pins s σ H xs us Q I r h
 obtain⟨p,ys,rfl,hq,q⟩:=h
 obtain⟨u,rfl,rx⟩:=vals1 r
 cases rx
 have fin:∀(its:List Value),Vals ys its->ys.length<=sizeLine->∀(h':Heap) (c':Nat),(∀b o',s.heap.get? b=some o'->h'.get? b=some o') ->
   h'.get? s.heap.objs.size=some { cls:=.type "list", dict:=none,data:=.seq its.toArray c',slots:=#[] }->EP X pins σ Q (.ref s.heap.objs.size) { s with heap:=h' }:=fun its r' hz h' c' kp e =>
  ⟨.ref s.heap.objs.size,_,I.laid (t':=s.toks) kp (zts _) (show xZ X.prog X.w _ h' _ (.lst ys) from ⟨hz,its,c',r',e⟩),rfl,q _ (I.hok.fresh (zts _))⟩
 rcases hq with hq | hq
 ·obtain⟨its,r',pl,hz⟩:=I.list hq
  have hlen:=r'.length
  obtain⟨o,ho,hc,n,hd⟩:=pl.isList
  exact call_list_seq p (.inl rfl) ho hc hd (fun h' c' kp e=>fin its r' hz h' c' kp e) (by simp only[ztm]<;>omega)
 ·obtain⟨its,r',pl,hz⟩:=I.tuple hq
  have hlen:=r'.length
  obtain⟨o,ho,hc,n,hd⟩:=pl
  exact call_list_seq p (.inr rfl) ho hc hd (fun h' c' kp e=>fin its r' hz h' c' kp e) (by simp only[ztm]<;>omega)
def tyV (K:Frag)(T:String)(x:V)(H:Hp):Prop:=match x with
 | .str _=>T="str"
 | .int _=>T="int"
 | .ref p=>(T="list" /\ ∃xs,zP K H p xs)\/(T="tuple" /\ ∃o,K.lookup p=some o/\o.cls=.type "tuple" /\ o.dict=none) \/
   (T="dict" /\ ((∃kvs,H p=some (.dK kvs))\/∃kvs,H p=some (.dT kvs)))\/(T="set" /\ ∃S n,H p=some (.set S n))
 | _=>False
theorem zcZ {pins:List (Addr×Obj)}{σ:St}{H:Hp}{s:Shared}{T:String}{x:V}{v:Value}(I:Inv X pins σ H s)(r:RelV x v)(ty:tyV X.K T x H) :
  s.TypeIs v T/\∀a,v=.ref a->∃ob,s.heap.get? a=some ob/\ob.dict=none:=by
 cases x with
 | str z =>
  obtain⟨t,rfl⟩:=r
  cases (show T="str" from ty)
  exact⟨typeIs_str s z t,fun _ e=>nomatch e⟩
 | int i =>
  obtain⟨t,rfl⟩:=r
  cases (show T="int" from ty)
  exact⟨typeIs_int s i t,fun _ e=>nomatch e⟩
 | ref p =>
  cases r
  rcases ty with ⟨rfl,xs,hq⟩ | ⟨rfl,o,hk,hc,hd⟩ | ⟨rfl,hk⟩ | ⟨rfl,S,n,hk⟩
  ·obtain⟨its,_,pl,_⟩:=I.list hq
   refine⟨pl.isList.typeIs,fun a e=>?_⟩
   cases e
   obtain⟨o,n,e,c,hd,_⟩:=pl
   exact⟨o,e,hd⟩
  ·refine⟨⟨o,I.LQ p o hk,hc⟩,fun a e=>?_⟩
   cases e
   exact⟨o,I.LQ _ o hk,hd⟩
  ·have z:∃o,s.heap.get? p=some o/\o.ExactDict:=by
    rcases hk with ⟨kvs,hk⟩ | ⟨kvs,hk⟩
    ·obtain⟨_,_,_,_,o,_,_,e,ex,_⟩:=I.hok p _ hk
     exact⟨o,e,ex⟩
    ·obtain⟨_,_,_,_,o,_,_,e,ex,_⟩:=I.hok p _ hk
     exact⟨o,e,ex⟩
   obtain⟨o,e,ex⟩:=z
   refine⟨⟨o,e,ex.1⟩,fun a e2=>?_⟩
   cases e2
   exact⟨o,e,ex.2.1⟩
  ·obtain⟨o,_,_,_,e,ex,_⟩:=I.hok p _ hk
   refine⟨⟨o,e,ex.1⟩,fun a e2=>?_⟩
   cases e2
   exact⟨o,e,ex.2.1⟩
 | _=>exact False.elim ty
def zpe (K:Frag)(T:String)(r:V->List V->Hp->VK->Prop)(to:TE):TE:=fun σ H Q=>to σ H fun x H1=>tyV K T x H1/\r x [] H1 Q
def tBM (K:Frag)(T:String)(r:V->List V->Hp->VK->Prop)(to:TE)(t:TA):TE:=fun σ H Q=>to σ H fun x H1=>tyV K T x H1/\t σ H1 fun xs H2=>r x xs H2 Q
variable {o e:Expr}{es:List Expr}{to:TE}{t:TA}{name:Str}{apos cpos:Pos}{T id:String}{r:V->List V->Hp->VK->Prop}
theorem zfS (pa:PlainAttrs T)(slot:Slot T name id)(hty:typeOf (.builtin id)=pure (.type "method_descriptor"))(hm:MtR X id r)(ho:PE X o to)
  (hbase:attributeBase o name X.env (eval o X.env)=eval o X.env:=by rfl)(hline:(apos.endLine==cpos.line)=true:=by rfl):PE X (.Call (.Attribute o name apos) [] [] cpos) (zpe X.K T r to):=by
 intro pins s σ H Q I h
 refine wpAny_Call_method0_late hbase hline (wD (ho pins s σ H _ I h) fun v s1 ⟨x,H1,I1,r1,ty,q1⟩=>?_)
 obtain⟨h1,h2⟩:=zcZ I1 r1 ty
 exact⟨T,id,pa,slot,hty,h1,h2,Calls.callWith_builtin rfl (PySem.evalArgs_none (hm pins s1 σ H1 x [] v [] Q I1 r1 .nil q1))⟩
theorem vf (pa:PlainAttrs T)(slot:Slot T name id)(hty:typeOf (.builtin id)=pure (.type "method_descriptor"))(hm:MtR X id r)(ho:PE X o to)(ha:PA X (e::es) t)
  (hbase:attributeBase o name X.env (eval o X.env)=eval o X.env:=by rfl)
  (hfew:((backTo cpos (starEach (e::es) X.env)).all (fun x=>!x.1)&&(backToKw cpos (keywordEach [] X.env)).all (fun x=>x.1.isSome)
   && decide ((e::es).length+([]:List Keyword).length+(if ([]:List Keyword).isEmpty then 0 else 1)<30))=true:=by rfl)
  (hline:(apos.endLine==cpos.line)=true:=by rfl)(hs:starEach (e::es) X.env=(false,eval e X.env)::starEach es X.env:=by rfl)(hplain:(backTo cpos (starEach es X.env)).any (·.1)=false:=by rfl) :
  PE X (.Call (.Attribute o name apos) (e::es) [] cpos) (tBM X.K T r to t):=by
 intro pins s σ H Q I h
 refine wpAny_Call_method_late hbase hfew hline rfl (wD (ho pins s σ H _ I h) fun v s1 ⟨x,H1,I1,r1,ty,q1⟩=>?_)
 obtain⟨h1,h2⟩:=zcZ I1 r1 ty
 refine⟨T,id,pa,slot,hty,h1,h2,?_⟩
 have hA:=ha cpos pins s1 σ H1 _ I1 q1
 rw[hs] at hA ⊢
 refine Calls.callWith_builtin (by show(false||(backTo cpos (starEach es X.env)).any (·.1))=false;rw[hplain]<;>rfl) (Calls.evalArgs_plain ?_)
 exact wD hA fun us s2 ⟨vs,H2,I2,r2,q2⟩=>hm pins s2 σ H2 x vs v us Q I2 r1 r2 q2
end
def MtM (X:Cx)(id:String)(r:V->List V->Hp->VK->Prop):Prop :=
 ∀(pins:List (Addr×Obj)) (s:Shared) (σ:St) (H:Hp) (x:V) (xs:List V) (v:Value) (us:List Value) (Q:VK),Inv X pins σ H s->RelV x v->Vals xs us->r x xs H Q ->
  wpAny (model X.prog X.w) X.A (call (.builtin id) (v::us)) (EP X pins σ Q) X.xe s
theorem Vals.one:∀{x:V} {us:List Value},Vals [x] us->∃u,us=[u]/\RelV x u
 | _,_,.cons r .nil=>⟨_,rfl,r⟩
theorem Vals.two:∀{x y:V} {us:List Value},Vals [x,y] us->∃u v,us=[u,v]/\RelV x u/\RelV y v
 | _,_,_,.cons r (.cons q .nil)=>⟨_,_,rfl,r,q⟩
theorem Vals.zero:∀{us:List Value},Vals [] us->us=[]
 | _,.nil=>rfl
theorem Vals.dropLast {xs:List V}{us:List Value}(h:Vals xs us):Vals xs.dropLast us.dropLast:=by
 induction h with
 | nil=>exact .nil
 | cons r t ih =>
  cases t with
  | nil=>exact .nil
  | cons q t'=>exact .cons r ih
theorem Vals.eraseIdx:∀{xs:List V} {us:List Value} (i:Nat),Vals xs us->Vals (xs.eraseIdx i) (us.eraseIdx i)
 | _,_,_,.nil=>.nil
 | _,_,0,.cons _ t=>t
 | _,_,i+1,.cons r t=>.cons r (Vals.eraseIdx i t)
theorem Vals.reverse {xs:List V}{us:List Value}(h:Vals xs us):Vals xs.reverse us.reverse:=by
 induction h with
 | nil=>exact .nil
 | cons r t ih=>rw[List.reverse_cons,List.reverse_cons];exact Vals.append ih (.cons r .nil)
theorem zfT {α:Type}(l:List α):l.eraseIdx (l.length-1)=l.dropLast:=by
 induction l with
 | nil=>rfl
 | cons a r ih =>
  cases r with
  | nil=>rfl
  | cons b r =>
   have e:(a::b::r).length-1=((b::r).length-1)+1:=by
    have h1:(a::b::r).length=r.length+2:=rfl
    have h2:(b::r).length=r.length+1:=rfl
    omega
   rw[e,List.eraseIdx_cons_succ,ih]
   all_goals rfl
theorem zcf {α:Type}:∀(l:List α) (i:Nat),(l.eraseIdx i).length<=l.length
 | [],_=>zts _
 | _::_,0=>Nat.le_succ _
 | _::r,i+1=>Nat.succ_le_succ (zcf r i)
section
variable {X:Cx}{pins:List (Addr×Obj)}{σ:St}{H:Hp}{s:Shared}{l b:Addr}{xs ys zs:List V}
theorem Inv.zfU {its its':List Value}{n:Nat}{f:Array Value->Array Value}{t':Nat}(I:Inv X pins σ H s)(hH:H l=some (.lst xs))
  (e:s.heap.get? l=some { cls:=.type "list", data:=.seq its.toArray n })(hf:f its.toArray=its'.toArray)(hv:Vals ys its')(hz:ys.length<=sizeLine) :
  Inv X pins σ (upd H l (.lst ys)) { s with heap:=s.heap.update l (Obj.mapSeq f),toks:=t' }:=by
 have q:=PySem.IsL.update e f
 rw[hf] at q
 refine I.write (x:=l) (e:=l) (by rw[hH];exact trivial) (.inl rfl) (fun b' u hb hu=>(Heap.get?_update_other s.heap (Obj.mapSeq f) (Ne.symm hb)).trans hu) ⟨_,q⟩ ?_
 exact⟨hz,its',_,hv,q⟩
theorem Inv.fresh (I:Inv X pins σ H s):H s.heap.objs.size=none:=I.hok.fresh (zts _)
theorem Inv.zej (I:Inv X pins σ H s)(hH:H l=some (.lst xs)):xs.length<=sizeLine/\∃(its:List Value) (n:Nat),Vals xs its/\xs.length=its.length/\s.heap.get? l=some { cls:=.type "list", data:=.seq its.toArray n }:=by
 obtain⟨z,its,n,r,e⟩:=I.hok l _ hH
 exact⟨z,its,n,r,r.length,e⟩
theorem zek {n:Nat}(h:n<=sizeLine):Builtin.List.listTooLong n=false:=by
 unfold Builtin.List.listTooLong
 exact decide_eq_false (by omega)
end
section
variable {X:Cx}
def zkg:V->List V->Hp->VK->Prop:=fun x vs H Q=>∃l xs y,x=.ref l/\vs=[y]/\H l=some (.lst xs)/\xs.length<sizeLine/\Q .non (upd H l (.lst (xs++[y])))
theorem uW:MtM X "list.append" zkg:=by
 intro pins s σ H x vs v us Q I rx rv h
 obtain⟨l,xs,y,rfl,rfl,hH,hz,q⟩:=h
 cases rx
 obtain⟨u,rfl,ru⟩:=rv.one
 obtain⟨z,its,n,r,hl,e⟩:=I.zej hH
 refine call_meets F.slot_list_append ⟨_,e,rfl⟩ F.entry_list_append (F.args_list_append_2 _ _) (PySem.list_append l its.toArray n u (by rw[ztm];omega)) ⟨e,?_⟩
 refine⟨.non,_,I.zfU (its':=its++[u]) hH e (by simp) (r.append (.cons ru .nil)) ?_,rfl,q⟩
 rw[ztk,ztK]
 omega
def zkh:V->List V->Hp->VK->Prop:=fun x vs H Q=>∃l b xs zs,x=.ref l/\vs=[.ref b]/\H l=some (.lst xs)/\H b=some (.lst zs)/\xs.length+zs.length<=sizeLine/\Q .non (upd H l (.lst (xs++zs)))
theorem Kh:MtM X "list.extend" zkh:=by
 intro pins s σ H x vs v us Q I rx rv h
 obtain⟨l,b,xs,zs,rfl,rfl,hH,hB,hz,q⟩:=h
 cases rx
 obtain⟨u,rfl,ru⟩:=rv.one
 cases ru
 obtain⟨z,its,n,r,hl,e⟩:=I.zej hH
 obtain⟨z2,its2,n2,r2,hl2,e2⟩:=I.zej hB
 have hsz:its.toArray.size+its2.toArray.size<=sizeLine:=by rw[ztm,ztm];omega
 have ziD:¬(!its.toArray.isEmpty&&Builtin.List.listTooLong (its.toArray.size+its2.toArray.size))=true:=by
  rw[zek hsz,Bool.and_false]
  exact ztg
 refine call_meets F.slot_list_extend ⟨_,e,rfl⟩ F.entry_list_extend (F.args_list_extend_2 _ _)
  (AutoSeq1.list_extend_list_list_0 l its.toArray n b its2.toArray n2 ziD (by rw[ztm];omega) (by omega)) ⟨e,e2,?_⟩
 refine⟨.non,_,I.zfU (its':=its++its2) hH e (by simp) (r.append r2) ?_,rfl,q⟩
 rw[ztk]
 omega
def zpf:V->List V->Hp->VK->Prop:=fun x vs H Q=>∃l xs y,x=.ref l/\vs=[]/\H l=some (.lst xs)/\xs[xs.length-1]?=some y/\Q y (upd H l (.lst xs.dropLast))
theorem zmf:MtM X "list.pop" zpf:=by
 intro pins s σ H x vs v us Q I rx rv h
 obtain⟨l,xs,y,rfl,rfl,hH,hy,q⟩:=h
 cases rx
 have hus:=rv.zero
 subst hus
 obtain⟨z,its,n,r,hl,e⟩:=I.zej hH
 obtain⟨u,hu,ru⟩:=r.get hy
 have hy':its.toArray[its.toArray.size-1]?=some u:=by
  show its.toArray[its.length-1]?=some u
  rw[<-Array.getElem?_toList,<-hl]
  exact hu
 refine call_meets F.slot_list_pop ⟨_,e,rfl⟩ F.entry_list_pop (F.args_list_pop_1 _) (MeetsSeq.list_pop_last l its.toArray n u hy' (by rw[ztm];omega)) ⟨e,?_⟩
 refine⟨y,_,I.zfU (its':=its.dropLast) hH e ?_ r.dropLast ?_,ru,q⟩
 ·show its.toArray.eraseIdxIfInBounds (its.toArray.size-1)=its.dropLast.toArray
  rw[ztm,List.eraseIdxIfInBounds_toArray,zfT]
 ·rw[List.length_dropLast]
  omega
def zmg:V->List V->Hp->VK->Prop:=fun x vs H Q=>∃l xs i k y,x=.ref l/\vs=[.int i]/\H l=some (.lst xs)/\-(2^63)<=i/\i<2^63/\seqIndex? i xs.length=some k/\xs[k]?=some y/\Q y (upd H l (.lst (xs.eraseIdx k)))
theorem zel:MtM X "list.pop" zmg:=by
 intro pins s σ H x vs v us Q I rx rv h
 obtain⟨l,xs,i,k,y,rfl,rfl,hH,h1,h2,hk,hy,q⟩:=h
 cases rx
 obtain⟨u,rfl,ru⟩:=rv.one
 obtain⟨t,rfl⟩:=ru
 obtain⟨z,its,n,r,hl,e⟩:=I.zej hH
 obtain⟨w,hw,rw'⟩:=r.get hy
 refine call_meets F.slot_list_pop ⟨_,e,rfl⟩ F.entry_list_pop (F.args_list_pop_2 _ _)
  (MeetsSeq.list_pop_at l its.toArray n i t k w (fitsIndex_both h1 h2) (by rw[ztm,<-hl];exact hk) (by rw[<-Array.getElem?_toList];exact hw) (by rw[ztm];omega)) ⟨e,?_⟩
 refine⟨y,_,I.zfU (its':=its.eraseIdx k) hH e ?_ (r.eraseIdx k) ?_,rw',q⟩
 ·show its.toArray.eraseIdxIfInBounds k=(its.eraseIdx k).toArray
  rw[List.eraseIdxIfInBounds_toArray]
 ·have:=zcf xs k
  omega
def ziE:V->List V->Hp->VK->Prop:=fun x vs H Q=>∃l xs,x=.ref l/\vs=[]/\H l=some (.lst xs)/\Q .non (upd H l (.lst xs.reverse))
theorem zaE:MtM X "list.reverse" ziE:=by
 intro pins s σ H x vs v us Q I rx rv h
 obtain⟨l,xs,rfl,rfl,hH,q⟩:=h
 cases rx
 have hus:=rv.zero
 subst hus
 obtain⟨z,its,n,r,hl,e⟩:=I.zej hH
 refine call_meets F.slot_list_reverse ⟨_,e,rfl⟩ F.entry_list_reverse (F.args_list_reverse_1 _) (AutoSeq1.list_reverse_list_0 l its.toArray n (by rw[ztm];omega)) ⟨e,?_⟩
 refine⟨.non,_,I.zfU (its':=its.reverse) hH e (by simp) r.reverse ?_,rfl,q⟩
 rw[List.length_reverse]
 omega
end
end L2
namespace Att
open PySem PySem.W PySem.Calls PyProof.Rows
theorem JK {P:Params}{h:Heap}:∀(ns:List Int) (vs:List Value),WellAll P h vs (ns.map WData.int)->IntsAre vs ns:=by
 intro ns
 induction ns with
 | nil =>
  intro vs w
  rw[List.map_nil] at w
  cases w
  exact .nil
 | cons n ns ih =>
  intro vs w
  rw[ztB] at w
  cases w with
  | cons a b =>
   cases a
   exact .cons _ _ (ih _ b)
theorem zhP {l:OpenLaw}{n:Nat}(hn:l.most=some n){P:Params}{h:Heap}{args:List WData}{vals:List Value}
  (hpre:l.row.toRowW.claim.pre args=true)(hwl:WellAll P h vals args) :
  ∃a vs ns,vals=[Value.ref a]/\args=[WData.list (ns.map WData.int)]/\h.get? a=some { cls:=.type "list", data:=.seq vs.toArray }/\IntsAre vs ns/\ns.length<=n:=by
 have hsh:WShape.hasAll [] args [.list .int]=true:=(pre_splitW hpre).1
 have hc:l.pre.holds [] { args:=args }=true:=(pre_splitW hpre).2
 obtain⟨d,r,rfl,h1,h2⟩:=hasAllW_cons hsh
 obtain rfl:=hasAllW_nil h2
 obtain⟨xs,rfl,h3⟩:=hasW_list h1
 obtain⟨ns,rfl⟩:=items_int h3
 have hlen:ns.length<=n:=by
  unfold OpenLaw.pre at hc
  have h4:(WTm.not (.lt (.lit (.int (n:Int))) (.len (.arg 0)))).holds [] { args:=[.list (ns.map .int)] }=true:=by
   have h4:=(holds_andW hc).1
   rw[hn] at h4
   exact h4
  have h5:=condW_of h4 (w_not (w_lt w_lit (w_len_list (w_arg rfl))))
  rw[ztc] at h5
  refine Nat.le_of_not_lt fun q=>?_
  have q':(n:Int)<((ns.length:Nat):Int):=by omega
  first
   | (rw[decide_eq_true q'] at h5;exact absurd h5 (by decide))
   | (simp at h5;omega)
 cases hwl with
 | cons w1 w2 =>
  cases w2
  cases w1 with
  | list ho hall=>exact⟨_,_,ns,rfl,rfl,ho,JK ns _ hall,hlen⟩
theorem zhQ (l:OpenLaw)(args:List WData):l.row.toRowW.claim.post args (.bool true) args=true :=
 postW_of (r:=l.row.toRowW) (X:=(true==true))
  (show WShape.has [] (.bool true) .bool=true by first | rfl | decide | simp[WShape.has,WShape.arms,WShape.armsAll])
  (show(WTm.eq .res (.lit (.bool true))).value [] { args:=args,res:=some (.bool true),after:=args }=some (.bool (true==true)) from w_eq_bool (w_res rfl) w_lit) rfl
theorem zem {l:OpenLaw}{n:Nat}{q:Program}{loose:List Str}{XP:(Str->Option Value)->Heap->Prop}{YP:World->Heap->Prop}{d:DefRec}
  (hn:l.most=some n)(hdf:d.params.defaults=[])
  (call:∀(w:World) (s₀ s₁:Shared) (mg mb:Str->Option Value) (fa:Addr) (o:Obj) (pm cd doc:Value) (a:Addr) (vs:List Value) (ns:List Int),
   Ground q loose [] XP w s₀ mg mb s₁.heap->YP w s₁.heap ->
   s₁.heap.get? fa=some o->o.data=.func (docDef d.name d.params d.body d.scope pm cd doc)->s₁.heap.CodeRec cd d.name->mg d.name=some (.ref fa) ->
   s₁.heap.get? a=some { cls:=.type "list", data:=.seq vs.toArray }->IntsAre vs ns->ns.length<=n->s₁.gens=#[] ->
   codeAny (model l.prog w) callerA (.call (.ref fa) ⟨[.ref a],[]⟩) (fun r s'=>r=.ok (.ret (.bool true))/\OldK s₁.heap s'.heap/\s'.os=s₁.os/\AllBare s'.gens) s₁) :
  WalkO q loose XP YP l.row.toRowW d [] (fun f vs=>PySem.call f vs):=by
 intro w s₀ s₁ mg mb G Y fa o pm cd doc dV kV ho hd hcd hD hmg hg args vals as hpre hlay hrd hwl hlo
 obtain rfl:dV=.none:=Dflts.none hD hdf
 obtain rfl:kV=.none:=Dflts.noKw hD
 obtain⟨a,vs,ns,rfl,rfl,hobj,hints,hlen⟩:=zhP hn hpre hwl
 refine enter_call (codeAny_mono (call w s₀ s₁ mg mb fa o pm cd doc a vs ns G Y ho (fd_plain hd) hcd hmg hobj hints hlen hg) fun r s' hq=>?_)
 obtain⟨rfl,h2,h3,h4⟩:=hq
 exact⟨.inl ⟨.bool true,.bool true,[],rfl,fun _=>rfl,.bool true,zhQ l _,fun _=>⟨List.Pairwise.nil,fun _ hm=>(nomatch hm)⟩⟩,h2,h3,h4⟩
end Att
namespace L2
open PySem PySem.Spec PyProof.Rows
theorem zcg:∀{vs:List Value} {ns:List Int},IntsAre vs ns->Vals (ns.map V.int) vs
 | _,_,.nil=>.nil
 | _,_,.cons n t h=>.cons ⟨t,rfl⟩ (zcg h)
def Only (H:Hp):Prop:=∀b,H b=none\/∃o xs,H b=some (.frz o (.lst xs))
theorem ziF {P:Program}{w:World}{K:Frag}{mg mb:Str->Option Value}{CX:CXT}{k:Nat}{fa a:Addr}{fd:FuncData}{x:Str}{sp:Sp}{s₁:Shared}{vs:List Value}{ns:List Int}
  (KX:K.In s₁.heap)(hns:s₁.heap.Ns mainGlobals mg)(hb:s₁.heap.Ns builtinsNs mb)(hbb:∀x:Str,x ≠ "__name__" -> mb x=bootBuiltins x)(hlim:s₁.heap.NoLimit)(hg:s₁.gens=#[])
  (ha:s₁.heap.get? a=some { cls:=.type "list", data:=.seq vs.toArray })(hi:IntsAre vs ns)(hl:ns.length<=sizeLine)(hr:Zn k callerA)
  (F:∀base:Heap,K.In base->base.Ns mainGlobals mg->zF P w K mg base CX k fa fd [x] sp)(hbind:∀(s:Shared) (u:Value),BindsTo s fd ⟨[u],[]⟩ [(x,u)])
  (hsp:∀H:Hp,Only H->zP K H a (ns.map V.int)->sp [.ref a] H (fun v _=>v=.bl true) fun _ _ _=>False)
  (hCX:∀H e s',CX [] H s₁ (fun _ _ _=>False) e s'->False) :
  codeAny (model P w) callerA (.call (.ref fa) ⟨[.ref a],[]⟩) (fun r s'=>r=.ok (.ret (.bool true))/\OldK s₁.heap s'.heap/\s'.os=s₁.os/\AllBare s'.gens) s₁:=by
 have rv:=zcg hi
 have lenV:=hi.length
 have core:∀H:Hp,Only H->zP K H a (ns.map V.int)->QT P w H s₁.heap->(∀b,H b≠none->b=a)->(H a≠none->K.lookup a=none) ->
   codeAny (model P w) callerA (.call (.ref fa) ⟨[.ref a],[]⟩) (fun r s'=>r=.ok (.ret (.bool true))/\OldK s₁.heap s'.heap/\s'.os=s₁.os/\AllBare s'.gens) s₁:=by
  intro H hO hS hok hA hK
  have zgS:∀{b:Addr} {o:Obj},s₁.heap.get? b=some o->H b=none->(zcM s₁.heap H).get? b=some o:=fun e n=>ziq e n
  have noA:∀{b:Addr} {o:Obj} {es:Array DictEntry} {ep:Nat},s₁.heap.get? b=some o->o.data=.dict es ep->H b=none:=fun {b o es ep} e d=>by
   cases q:H b with
   | none=>rfl
   | some u =>
    have e':b=a:=hA b (by rw[q];simp)
    subst e'
    rw[ha] at e;cases e
    have d':Data.seq vs.toArray _=Data.dict es ep:=d
    cases d'
  have nsK:∀{b:Addr} {m:Str->Option Value},s₁.heap.Ns b m->(zcM s₁.heap H).Ns b m:=fun {b m} ⟨o,es,ep,e,d,r⟩=>⟨o,es,ep,zgS e (noA e d),d,r⟩
  have hKb:K.In (zcM s₁.heap H):=fun b o e=>zgS (KX b o e) (by
   cases q:H b with
   | none=>rfl
   | some u =>
    have e':b=a:=hA b (by rw[q];simp)
    subst e'
    rw[hK (by rw[q];simp)] at e;cases e)
  have hM:Mod K mg (zcM s₁.heap H):=⟨hKb,nsK hns,⟨mb,nsK hb,hbb⟩,let ⟨mc,h1,h2⟩:=hlim;⟨mc,nsK h1,h2⟩⟩
  have e0:zfN P w K mg (zcM s₁.heap H) callerA [] s₁ H:=⟨rfl,hM,fun b o e=>zj4 e,Nat.le_of_eq (zhA _ _),trivial,fun b hb=>absurd (show b∈([]:List Addr) from hb) (by simp),hok,.of_eq hg⟩
  refine codeAny_mono ((F _ hKb (nsK hns)).run callerA [] s₁ H ⟨[.ref a],[]⟩ [.ref a] [.ref a] _ _ hr e0 (hbind s₁ (.ref a)) (.cons rfl .nil) (hsp H hO hS)) fun r s' h=>?_
  cases r with
  | error e=>exact(hCX H e s' h).elim
  | ok fl =>
   cases fl with
   | next=>exact False.elim h
   | brk=>exact False.elim h
   | cont=>exact False.elim h
   | ret u =>
    obtain⟨v,H',os,bare,un,hok',r',q⟩:=h
    have q':v=.bl true:=q
    subst q'
    obtain rfl:u=Value.bool true:=r'
    refine⟨rfl,OldK.of_keep fun b o e=>?_,os,bare⟩
    cases q:H b with
    | none=>exact un.keep b o e q (by intro z;exact absurd (show b∈([]:List Addr) from z) (by simp)) (by simp)
    | some u =>
     rcases hO b with z | ⟨ob,xs,z⟩
     ·rw[q] at z;cases z
     ·have z2:=un.zbB b ob _ z
      obtain⟨e1,_⟩:=hok b _ z
      obtain⟨e2,_⟩:=hok' b _ z2
      rw[e] at e1;cases e1
      exact e2
 cases hk:K.lookup a with
 | some o =>
  have e:=KX a o hk
  rw[ha] at e
  cases e
  refine core (fun _=>none) (fun _=>.inl rfl) (.inr ⟨_,vs.toArray,_,hk,rfl,rfl,rfl,by rw[ztm,lenV];exact hl,by simpa using rv⟩) (fun b u z=>by have z':(none:Option HO)=some u:=z;cases z') (fun b z=>absurd rfl z) fun z=>absurd rfl z
 | none =>
  refine core (fun b=>if b=a then some (.frz { cls:=.type "list", data:=.seq vs.toArray } (.lst (ns.map V.int))) else none) (fun b=>?_) (.inl (.inr ⟨{ cls:=.type "list", data:=.seq vs.toArray },if_pos rfl⟩)) (fun b u z=>?_) (fun b z=>?_) fun _=>hk
  ·by_cases hb:b=a
   ·exact .inr ⟨_,_,if_pos hb⟩
   ·exact .inl (if_neg hb)
  ·by_cases hb:b=a
   ·have z':=(if_pos hb).symm.trans z
    cases z'
    subst hb
    exact⟨ha,by rw[ztc];exact hl,vs,_,rv,ha⟩
   ·have z':=(if_neg hb).symm.trans z
    cases z'
  ·by_cases hb:b=a
   ·exact hb
   ·exact absurd (if_neg hb) z
abbrev KOf {K:Frag}{h:Heap}(_:K.In h):Frag:=K
theorem zki {l:PySem.W.OpenLaw}{n k:Nat}{q:Program}{loose:List Str}{XP:(Str->Option Value)->Heap->Prop}{YP:World->Heap->Prop}{d:DefRec}{K:Params->Frag}{CX:World->CXT}{sp:World->Sp}{x:Str}
  (hn:l.most=some n)(hn2:n<=sizeLine)(hdf:d.params.defaults=[])(hr:Zn k callerA)
  (hY:∀(w:World) (h:Heap),YP w h->(K w.params).In h)
  (F:∀(w:World) (mg:Str->Option Value) (fa:Addr) (h:Heap),(K w.params).In h->h.Ns mainGlobals mg->mg d.name=some (.ref fa) ->
   ∃fd:FuncData,(∀(s:Shared) (u:Value),BindsTo s fd ⟨[u],[]⟩ [(x,u)]) /\
    ∀base:Heap,(K w.params).In base->base.Ns mainGlobals mg->zF l.prog w (K w.params) mg base (CX w) k fa fd [x] (sp w))
  (hsp:∀(w:World) (H:Hp) (a:Addr) (ns:List Int),ns.length<=n->Only H->zP (K w.params) H a (ns.map V.int)->sp w [.ref a] H (fun v _=>v=.bl true) fun _ _ _=>False)
  (hCX:∀(w:World) (H:Hp) (s:Shared) (e:Value) (s':Shared),CX w [] H s (fun _ _ _=>False) e s'->False) :
  PySem.W.WalkO q loose XP YP l.row.toRowW d [] (fun f vs=>PySem.call f vs):=by
 refine Att.zem hn hdf fun w s₀ s₁ mg mb fa o pm cd doc a vs ns G Y ho hd hcd hmg hobj hints hlen hg=>?_
 have KX:=hY w _ Y
 obtain⟨fd,hb,hF⟩:=F w mg fa _ KX G.T.g hmg
 exact ziF KX G.T.g G.T.b G.T.builtins G.T.nolimit hg hobj hints (zty hlen hn2) hr hF hb (fun H hO hS=>hsp w H a ns hlen hO hS) fun H e s'=>hCX w H s₁ e s'
theorem ziG {l:PySem.W.OpenLaw}{n k:Nat}{q:Program}{loose:List Str}{XP:(Str->Option Value)->Heap->Prop}{YP:World->Heap->Prop}{d:DefRec}{K:Params->Frag}{CX:CXT}{sp:Frag->Sp}{x:Str}
  (hn:l.most=some n)(hn2:n<=sizeLine)(hdf:d.params.defaults=[])(hr:Zn k callerA)
  (hY:∀(w:World) (h:Heap),YP w h->(K w.params).In h)
  (F:∀(w:World) (mg:Str->Option Value) (fa:Addr) (h:Heap),(K w.params).In h->h.Ns mainGlobals mg->mg d.name=some (.ref fa) ->
   ∃fd:FuncData,(∀(s:Shared) (u:Value),BindsTo s fd ⟨[u],[]⟩ [(x,u)]) /\
    ∀base:Heap,(K w.params).In base->base.Ns mainGlobals mg->zF l.prog w (K w.params) mg base CX k fa fd [x] (sp (K w.params)))
  (hsp:∀(K:Frag) (H:Hp) (a:Addr) (ns:List Int),ns.length<=n->Only H->zP K H a (ns.map V.int)->sp K [.ref a] H (fun v _=>v=.bl true) fun _ _ _=>False)
  (hCX:∀(H:Hp) (s:Shared) (e:Value) (s':Shared),CX [] H s (fun _ _ _=>False) e s'->False) :
  PySem.W.WalkO q loose XP YP l.row.toRowW d [] (fun f vs=>PySem.call f vs) :=
 zki (K:=K) (CX:=fun _=>CX) (sp:=fun w=>sp (K w.params)) hn hn2 hdf hr hY F (fun w H a ns h1 h2 h3=>hsp (K w.params) H a ns h1 h2 h3) fun _ H s e s'=>hCX H s e s'
def inClass (s:Stmt)(j:Nat):Stmt:=match s with
 | .ClassDef _ _ _ body _ _ _ _ _ _ _=>body.getD j (.Pass ⟨0,0,0,0⟩)
 | _=>.Pass ⟨0,0,0,0⟩
def YK (s:Stmt):Arguments:=match s with
 | .FunctionDef _ a _ _ _ _ _ _ _ _=>a
 | _=>{ posonlyargs:=[],args:=[],vararg:=none,kwonlyargs:=[],kw_defaults:=[],kwarg:=none,defaults:=[] }
def ur (s:Stmt):List Stmt:=match s with
 | .FunctionDef _ _ b _ _ _ _ _ _ _=>b
 | _=>[]
def zu (s:Stmt):Scope:=match s with
 | .FunctionDef _ _ _ _ _ _ sc _ _ _=>sc
 | _=>{ kind:=.function,names:=[],isGenerator:=false,isCoroutine:=false }
abbrev zY:CXT:=fun _ _ _ _ _ _=>False
abbrev E0:XK:=fun _ _ _=>False
theorem zgT {X:Cx}:Passes zY X E0:=fun _ _ _ _ _ _ _ h=>h.elim
structure Fun (K:Frag)(x qual:Str)(st:Stmt)(f:Addr)(fd:FuncData):Prop where
 ex:∃(oc:Value) (od:Option Addr) (kV doc pm:Value) (an:Option Addr) (cdv ct:Value) (osl:Array (Option Value)),
  fd=PySem.W.fnOf x qual (YK st) (ur st) (zu st) .none kV doc pm an cdv ct/\K.lookup f=some ⟨oc,od,.func fd,osl⟩/\PySem.W.codeIn K cdv qual=true
 kp:PySem.W.keepIn K (.ref f)=true
section
variable {P:Program}{w:World}{K:Frag}{mg:Str->Option Value}{base:Heap}
theorem Fun.ok {x qual:Str}{st:Stmt}{f:Addr}{fd:FuncData}{N ps:List Str}{k:Nat}{sp:Sp}(F:Fun K x qual st f fd)(S:zN N ps (zu st))(len:∀vs H Q E,sp vs H Q E->vs.length=ps.length)
  (hbody:∀(cdv:Value) (A:Around) (outer:List Env) (s:Shared) (H:Hp) (vs:List V) (Q:VK) (E:XK),Zn k (A.deeper (envOfC qual (zu st) s.heap.objs.size f cdv))->sp vs H Q E ->
   ∃t,PSs (zhN zY P w K mg base N qual (zu st) f cdv A outer s H E).nox (ur st) t/\t { nx:=fun _ H'=>Q .non H',rt:=Q } (start N vs) H):zF P w K mg base zY (k+1) f fd ps sp:=by
 obtain⟨oc,od,kV,doc,pm,an,cdv,ct,osl,rfl,lk,hcd⟩:=F.ex
 refine znl lk hcd S len fun A outer s H vs Q E hr hsp=>?_
 obtain⟨t,h,q⟩:=hbody cdv A outer s H vs Q E hr hsp
 exact⟨t,h.nox,q⟩
theorem Fun.binds {x qual:Str}{st:Stmt}{f:Addr}{fd:FuncData}{ps:List Str}(F:Fun K x qual st f fd)
  (h:∀(kV doc pm:Value) (an:Option Addr) (cdv ct:Value) (us:List Value),us.length=ps.length->bindArgs (PySem.W.fnOf x qual (YK st) (ur st) (zu st) .none kV doc pm an cdv ct) ⟨us,[]⟩=pure (ps.zip us)):Binds K fd ps []:=by
 obtain⟨oc,od,kV,doc,pm,an,cdv,ct,osl,rfl,lk,hcd⟩:=F.ex
 exact .all (h kV doc pm an cdv ct)
theorem zc0 {x qual:Str}{st:Stmt}{f:Addr}{oc:Value}{od an:Option Addr}{osl:Array (Option Value)}{kV doc pm cdv ct:Value}(l:K.lookup f=some ⟨oc,od,.func (PySem.W.fnOf x qual (YK st) (ur st) (zu st) .none kV doc pm an cdv ct),osl⟩)
  (c:PySem.W.codeIn K cdv qual=true)(k:PySem.W.keepIn K (.ref f)=true):Fun K x qual st f (PySem.W.fnOf x qual (YK st) (ur st) (zu st) .none kV doc pm an cdv ct):=⟨⟨oc,od,kV,doc,pm,an,cdv,ct,osl,rfl,l,c⟩,k⟩
end
theorem zch {A:Around}{k:Nat}(hr:Zn k A):A.units+1<cLine:=Nat.lt_of_le_of_lt (Nat.add_le_add_left (by decide:1<=64) _) hr.units
theorem zO {n:Nat}(h:n<=1000):n<sizeLine:=Nat.lt_of_le_of_lt h (by decide)
section
variable {X:Cx}
theorem pv (i:Nat){x:Str}{pos:Pos}(hN:X.N[i]?=some x:=by rfl)(hv:Vis X.env.scope x:=by first | exact Or.inl rfl | exact Or.inr (Or.inl rfl) | exact Or.inr (Or.inr rfl))(hd:(x==("__debug__" : Str))=false:=by decide)
  (hcd:(x==("__classdict__" : Str))=false:=by decide):PE X (.Name x pos) (Sh i):=zlY hN hv hd hcd
end
theorem yr {A B:Prop}(h:B):if false=true then A else B:=by
 rw[if_neg ztg]
 exact h
theorem Wh {A B:Prop}(h:A):if true=true then A else B:=by
 rw[if_pos rfl]
 exact h
theorem yc {c A B:Prop}[Decidable c](h1:c->A)(h2:¬c->B):if c then A else B:=by
 by_cases h:c
 ·rw[if_pos h]
  exact h1 h
 ·rw[if_neg h]
  exact h2 h
def Same (H H':Hp):Prop:=∀b o,H b=some o->H' b=some o
theorem Same.refl (H:Hp):Same H H:=fun _ _ h=>h
theorem Same.trans {H H1 H2:Hp}(a:Same H H1)(b:Same H1 H2):Same H H2:=fun c o h=>b c o (a c o h)
theorem Same.free {H H':Hp}(e:Same H H'){l:Addr}(h:H' l=Option.none):H l=Option.none:=by
 cases q:H l with
 | none=>rfl
 | some o =>
  rw[e l o q] at h
  cases h
theorem Same.seq {K:Frag}{H H':Hp}{a:Addr}{xs:List V}(e:Same H H')(h:zP K H a xs):zP K H' a xs:=by
 rcases h with (h | ⟨o,h⟩) | h
 ·exact .inl (.inl (e _ _ h))
 ·exact .inl (.inr ⟨o,e _ _ h⟩)
 ·exact .inr h
end L2
set_option maxHeartbeats 8000000
namespace L2
open PySem PySem.Spec PyProof.Rows
section
variable {X:Cx}{pins:List (Addr×Obj)}{σ:St}{H:Hp}{s:Shared}
theorem QT.track {P:Program}{w:World}{H:Hp}{h:Heap}{a:Addr}{o:HO}(x:QT P w H h)(hn:H a=none)(new:xZ P w (upd H a o) h a o):QT P w (upd H a o) h:=fun b u e=>by
 by_cases hb:b=a
 ·subst hb
  rw[zf] at e
  cases e
  exact new
 ·rw[zG hb] at e
  refine(x b u e).stay (fun _ _ _ q=>q) (fun c q=>?_) fun c xs q=>?_
  ·rw[zG (zA q hn)];exact q
  ·rw[zG (zA q hn)];exact q
theorem Inv.track {a:Addr}{o:HO}(I:Inv X pins σ H s)(hn:H a=none)(hL:a≠X.env.locals)(h0:X.s₀.heap.objs.size<=a)(hc:∀x c,X.env.cells.lookup x=some c->c≠a)(hp:∀p∈X.pn++pins,p.1≠a)
  (new:xZ X.prog X.w (upd H a o) s.heap a o):Inv X pins σ (upd H a o) s:=by
 have old:∀b ob,X.s₀.heap.get? b=some ob->b≠a:=fun b ob e=>ztr (ztl (ztj e) h0)
 refine⟨I.ok,I.os,I.bare,⟨fun b ob e n=>I.base.keep b ob e n,fun b ob e n=>I.base.slot b ob e n,fun b ob e n hx=>?_,fun b ob e hx=>I.base.there b ob e hx,fun b xs e=>?_,fun b ob u e=>?_,fun b ps e=>?_⟩,I.loc,I.cell,?_,fun x c e=>?_,fun p hm=>?_,I.hok.track hn new,I.len⟩
 ·rw[zG (old b ob e)];exact I.base.free b ob e n hx
 ·have q:=I.base.tups b xs e
  rw[zG (zA q hn)];exact q
 ·have q:=I.base.zbB b ob u e
  rw[zG (zA q hn)];exact q
 ·obtain⟨mo,q⟩:=I.base.zcL b ps e
  exact⟨mo,by rw[zG (zA q hn)];exact q⟩
 ·rw[zG (Ne.symm hL)];exact I.free
 ·rw[zG (hc x c e)];exact I.Sg x c e
 ·obtain⟨z1,z2,z3⟩:=I.pin p hm
  exact⟨z1,by rw[zG (hp p hm)];exact z2,z3⟩
end
def clo:List (Str×NameKind)->List (Str×Addr)->List (Str×Addr)->List (Str×Addr)
 | [],_,acc=>acc
 | (n,k)::r,cells,acc=>clo r cells (if k==.free then (match cells.lookup n with | some c=>(n,c)::acc | none=>acc) else acc)
theorem V4 (cells:List (Str×Addr)):∀(names:List (Str×NameKind)) (acc:List (Str×Addr)),(∀y c,acc.lookup y=some c->cells.lookup y=some c)->∀y c,(clo names cells acc).lookup y=some c->cells.lookup y=some c
 | [],acc,h=>h
 | (n,k)::r,acc,h=>by
  refine V4 cells r _ fun y c e=>?_
  cases hk:k==NameKind.free with
  | false=>rw[hk] at e;exact h y c e
  | true =>
   rw[hk,if_pos rfl] at e
   cases hc:cells.lookup n with
   | none=>rw[hc] at e;exact h y c e
   | some a =>
    rw[hc] at e
    have e':(((n,a)::acc).lookup y)=some c:=e
    rw[ztC] at e'
    cases hy:y==n with
    | true =>
     rw[hy] at e'
     have z:y=n:=by simpa using hy
     subst z
     rw[hc];exact e'
    | false=>rw[hy] at e';exact h y c e'
theorem zci (cells:List (Str×Addr)):∀(names:List (Str×NameKind)) (acc:List (Str×Addr)) (y:Str),(acc.lookup y).isSome=true->((clo names cells acc).lookup y).isSome=true
 | [],_,_,h=>h
 | (n,k)::r,acc,y,h=>by
  refine zci cells r _ y ?_
  cases hk:k==NameKind.free with
  | false=>exact h
  | true =>
   rw[if_pos rfl]
   cases hc:cells.lookup n with
   | none=>exact h
   | some a =>
    show(((n,a)::acc).lookup y).isSome=true
    rw[ztC]
    cases hy:y==n with
    | true=>rfl
    | false=>exact h
theorem zc1 (cells:List (Str×Addr)):∀(names:List (Str×NameKind)) (acc:List (Str×Addr)) (y:Str),(y,NameKind.free)∈names->(cells.lookup y).isSome=true->((clo names cells acc).lookup y).isSome=true
 | [],_,_,h,_=>by cases h
 | (n,k)::r,acc,y,h,hs=>by
  rcases List.mem_cons.mp h with e | h
  ·cases e
   refine zci cells r _ n ?_
   show(((match cells.lookup n with | some c=>(n,c)::acc | none=>acc)).lookup n).isSome=true
   cases hc:cells.lookup n with
   | none=>rw[hc] at hs;cases hs
   | some a =>
    show(((n,a)::acc).lookup n).isSome=true
    rw[ztC]
    simp
  ·exact zc1 cells r _ y h hs
theorem zgU {env:Env}:∀(names:List (Str×NameKind)) (acc:List (Str×Addr)),(∀y,(y,NameKind.free)∈names->(env.cells.lookup y).isSome=true) ->
  (forIn names acc fun(x:Str×NameKind) (cs:List (Str×Addr))=>if (x.2==NameKind.free)=true then do let c <-cellOf env x.1;pure (ForInStep.yield ((x.1,c)::cs)) else pure (ForInStep.yield cs):Sem (List (Str×Addr)))=pure (clo names env.cells acc)
 | [],acc,_=>rfl
 | (n,k)::r,acc,h=>by
  have ih:=fun acc'=>zgU (env:=env) r acc' fun y hy=>h y (ztn _ hy)
  rw[List.forIn_cons]
  cases hk:k==NameKind.free with
  | false =>
   show((pure (ForInStep.yield acc):Sem _)>>=_)=_
   rw[pure_bind]
   show(forIn r acc _:Sem _)=_
   rw[ih acc]
   show pure (clo r env.cells acc)=pure (clo r env.cells (if (k==NameKind.free)=true then (match env.cells.lookup n with | some c=>(n,c)::acc | none=>acc) else acc))
   rw[hk];rfl
  | true =>
   have hkf:k=NameKind.free:=by simpa using hk
   subst hkf
   have hs:=h n ztw
   cases hc:env.cells.lookup n with
   | none=>rw[hc] at hs;cases hs
   | some a =>
    have hcell:cellOf env n=pure a:=by unfold cellOf;rw[hc]
    show((cellOf env n>>=fun c=>(pure (ForInStep.yield ((n,c)::acc)):Sem _))>>=_)=_
    rw[hcell,pure_bind,pure_bind]
    show(forIn r ((n,a)::acc) _:Sem _)=_
    rw[ih]
    show pure (clo r env.cells ((n,a)::acc))=pure (clo r env.cells (match env.cells.lookup n with | some c=>(n,c)::acc | none=>acc))
    rw[hc]
theorem zfV {sc:Scope}{env:Env}(h:∀y,(y,NameKind.free)∈sc.names->(env.cells.lookup y).isSome=true):closureFor sc env=pure (clo sc.names env.cells []):=by
 unfold closureFor
 have:=zgU (env:=env) sc.names [] h
 simpa using this
structure uX (wV sc:Scope)(x:Str)(fv:List Str):Prop where
 kind:sc.kind=.function
 Uw:∀y∈sc.names,y.2≠.cell
 names:∀y∈sc.names,y.2=.local->sc.names.lookup y.1=some .local
 hx:sc.names.lookup x=some .local
 fr:∀y∈sc.names,y.2=.free->wV.names.lookup y.1=some .cell\/wV.names.lookup y.1=some .free
 fvs:∀y∈fv,sc.names.lookup y=some .free/\(wV.names.lookup y=some .cell\/wV.names.lookup y=some .free)
 nd:(x::fv).Nodup
abbrev Cx.blk (X:Cx)(sc:Scope)(cl:List (Str×Addr))(C:Addr)(N:List Str)(s:Shared)(H:Hp)(fp:List Addr):Cx :=
 {X with N:=N,s₀:=s,H₀:=H,env:=compEnvC sc cl C X.env,outer:=X.stack,ex:=fp,fn:=fun _=>false,pn:=[],xe:=fun _ _=>False }
abbrev lcN (X:Cx)(x:Str)(js:List Nat):List Str:=x::js.map fun j=>X.N.getD j ""
abbrev Zx (σ:St)(js:List Nat)(x:Option V):St:=x::js.map fun j=>σ.getD j none
theorem Xy {env:Env}:∀{names:List (Str×NameKind)} {y:Str} {k:NameKind},(names.map fun(n,k)=>if (k==NameKind.free&&env.scope.kind==.function&&env.kindOf n==some .cell) then (n,NameKind.cell) else (n,k)).lookup y=some k->(k=.cell\/k=.free)->(∀z∈names,z.2≠.cell)->(y,NameKind.free)∈names
 | [],_,_,h,_,_=>by simp at h
 | (n,k')::r,y,k,h,hk,hn=>by
  by_cases hc:(k'==NameKind.free&&env.scope.kind==.function&&env.kindOf n==some .cell)=true
  ·have hk':k'=NameKind.free:=by
    rw[ztE,ztE] at hc
    simpa using hc.1.1
   subst hk'
   rw[ztB] at h
   cases hy:y==n with
   | true =>
    have z:y=n:=by simpa using hy
    subst z
    exact ztw
   | false =>
    have h':List.lookup y ((if (NameKind.free==NameKind.free&&env.scope.kind==.function&&env.kindOf n==some .cell)=true then (n,NameKind.cell) else (n,NameKind.free))::(r.map fun(n,k)=>if (k==NameKind.free&&env.scope.kind==.function&&env.kindOf n==some .cell) then (n,NameKind.cell) else (n,k)))=some k:=h
    rw[if_pos hc,ztC,hy] at h'
    exact ztn _ (Xy h' hk fun z hz=>hn z (ztn _ hz))
  ·have h':List.lookup y ((if (k'==NameKind.free&&env.scope.kind==.function&&env.kindOf n==some .cell)=true then (n,NameKind.cell) else (n,k'))::(r.map fun(n,k)=>if (k==NameKind.free&&env.scope.kind==.function&&env.kindOf n==some .cell) then (n,NameKind.cell) else (n,k)))=some k:=h
   rw[if_neg hc,ztC] at h'
   cases hy:y==n with
   | true =>
    rw[hy] at h'
    cases h'
    have z:y=n:=by simpa using hy
    subst z
    rcases hk with e | e
    ·exact absurd e (hn _ ztw)
    ·subst e;exact ztw
   | false =>
    rw[hy] at h'
    exact ztn _ (Xy h' hk fun z hz=>hn z (ztn _ hz))
theorem zaF {env:Env}:∀{names:List (Str×NameKind)} {y:Str},names.lookup y=some .free->(names.map fun(n,k)=>if (k==NameKind.free&&env.scope.kind==.function&&env.kindOf n==some .cell) then (n,NameKind.cell) else (n,k)).lookup y=some .cell\/(names.map fun(n,k)=>if (k==NameKind.free&&env.scope.kind==.function&&env.kindOf n==some .cell) then (n,NameKind.cell) else (n,k)).lookup y=some .free
 | [],_,h=>by simp at h
 | (n,k')::r,y,h=>by
  rw[ztC] at h
  rw[ztB]
  cases hy:y==n with
  | true =>
   rw[hy] at h
   cases h
   by_cases hc:(NameKind.free==NameKind.free&&env.scope.kind==.function&&env.kindOf n==some .cell)=true
   ·refine .inl ?_
    show List.lookup y ((if (NameKind.free==NameKind.free&&env.scope.kind==.function&&env.kindOf n==some .cell)=true then (n,NameKind.cell) else (n,NameKind.free))::_)=_
    rw[if_pos hc,ztC,hy]
   ·refine .inr ?_
    show List.lookup y ((if (NameKind.free==NameKind.free&&env.scope.kind==.function&&env.kindOf n==some .cell)=true then (n,NameKind.cell) else (n,NameKind.free))::_)=_
    rw[if_neg hc,ztC,hy]
  | false =>
   rw[hy] at h
   have ih:=zaF (env:=env) h
   by_cases hc:(k'==NameKind.free&&env.scope.kind==.function&&env.kindOf n==some .cell)=true
   ·show List.lookup y ((if (k'==NameKind.free&&env.scope.kind==.function&&env.kindOf n==some .cell)=true then (n,NameKind.cell) else (n,k'))::_)=_\/List.lookup y ((if (k'==NameKind.free&&env.scope.kind==.function&&env.kindOf n==some .cell)=true then (n,NameKind.cell) else (n,k'))::_)=_
    rw[if_pos hc,ztC,hy]
    exact ih
   ·show List.lookup y ((if (k'==NameKind.free&&env.scope.kind==.function&&env.kindOf n==some .cell)=true then (n,NameKind.cell) else (n,k'))::_)=_\/List.lookup y ((if (k'==NameKind.free&&env.scope.kind==.function&&env.kindOf n==some .cell)=true then (n,NameKind.cell) else (n,k'))::_)=_
    rw[if_neg hc,ztC,hy]
    exact ih
abbrev uo (its:List Value)(n:Nat):Obj:={ cls:=.type "list", data:=.seq its.toArray n }
abbrev YL (ifs:List Expr)(env:Env):Sem Bool :=
 forIn ifs true fun c r=>if r=true then do let ok <-isTrue c env (eval c env);pure (ForInStep.yield ok) else pure (ForInStep.yield r)
def tLC (wi:TI)(js:List Nat)(tt:TT)(te:TE):TE:=fun σ H Q=>wi σ H fun J H1=>∃W:Nat->Nat->List V->Hp->Prop,(∃m,W 0 m [] H1)/\∀i m ys H,W i m ys H ->
 (J.stop i H/\∀p,H p=none->Q (.ref p) (upd H p (.lst ys))) \/
 (J.go i H/\ys.length<sizeLine/\∀x H',J.Qe i H x H'->tt (Zx σ js (some x)) H' fun b H2 =>
  if b=true then te (Zx σ js (some x)) H2 fun v H3=>∃m',m'<m/\W (i+1) m' (ys++[v]) H3 else ∃m',m'<m/\W (i+1) m' ys H2)
section
variable {X:Cx}{sc wV:Scope}{x:Str}{js:List Nat}{elt iter:Expr}{px pos:Pos}{ifs:List Expr}{wi:TI}{tt:TT}{te:TE}
theorem zkj {P:Program}{w:World}{A:Around}{R:Result->Shared->Prop}{st:Shared}{tg it acc}{cenv:Env}(Iv:Nat->Shared->Prop)
  (step:∀k st,Iv k st->wpAny (model P w) A (pyNext it) (fun got s1=>match got with
   | none=>R (.ok .next) s1
   | some v=>wpAny (model P w) A (letOwnedTupleGo tg it v) (fun _ s2=>wpAny (model P w) A (assign tg cenv v) (fun _ s3 =>
     wpAny (model P w) A (YL ifs cenv) (fun ok s4=>if ok=true then wpAny (model P w) A (eval elt cenv) (fun y s5 =>
       wpAny (model P w) A (call (.builtin "list.append") [acc,y]) (fun _ s6=>∃k',k'<k/\Iv k' s6) (notedBy (model P w) A cenv fun e z=>R (.error e) z) s5) (notedBy (model P w) A cenv fun e z=>R (.error e) z) s4
      else ∃k',k'<k/\Iv k' s4) (notedBy (model P w) A cenv fun e z=>R (.error e) z) s3) (notedBy (model P w) A cenv fun e z=>R (.error e) z) s2) (notedBy (model P w) A cenv fun e z=>R (.error e) z) s1)
   (notedBy (model P w) A cenv fun e z=>R (.error e) z) st)(k0:Nat)(h0:Iv k0 st) :
  codeAny (model P w) A (.compLoop (.ListComp elt [⟨tg,iter,ifs,0⟩] sc pos) 0 it acc cenv) R st:=by
 refine codeAny_loop rfl Iv (fun k st hk=>?_) k0 h0
 show wpAny _ A ((compTurn (.ListComp elt [⟨tg,iter,ifs,0⟩] sc pos) 0 it acc cenv).onRaise (fun e=>do noteFrame e cenv;theTreesLotGoes e)) _ _ st
 refine wpAny_noted ?_
 rw[compTurn_list]
 refine wpAny_bind (wpAny_standAt (wpAny_bind (wpAny_mono (step k st hk) (fun got s1 h1=>?_) fun _ _ z=>z)))
 cases got with
 | none=>exact wpAny_pure h1
 | some v =>
  refine wpAny_bind (wpAny_mono h1 (fun _ s2 h2=>?_) fun _ _ z=>z)
  refine wpAny_bind (wpAny_mono h2 (fun _ s3 h3=>wpAny_bind (wpAny_mono h3 (fun ok s4 h4=>?_) fun _ _ z=>z)) fun _ _ z=>z)
  cases ok with
  | false=>exact wpAny_pure ⟨rfl,h4⟩
  | true=>exact wpAny_bind (wpAny_bind (wpAny_mono h4 (fun y s5 h5=>wpAny_bind (wpAny_mono h5 (fun _ s6 h6=>wpAny_pure (wpAny_pure ⟨rfl,h6⟩)) fun _ _ z=>z)) fun _ _ z=>z))
structure Own (X:Cx)(pins:List (Addr×Obj))(H:Hp)(a:Addr):Prop where
 free:H a=none
 loc:a≠X.env.locals
 new:X.s₀.heap.objs.size<=a
 cel:∀x c,X.env.cells.lookup x=some c->c≠a
 pin:∀p∈X.pn++pins,p.1≠a
 fs:a∉X.fs
end
structure zen (wV sc:Scope)(xs:List Str)(fv:List Str):Prop where
 kind:sc.kind=.function
 Uw:∀y∈sc.names,y.2≠.cell
 names:∀y∈sc.names,y.2=.local->sc.names.lookup y.1=some .local
 fr:∀y∈sc.names,y.2=.free->wV.names.lookup y.1=some .cell\/wV.names.lookup y.1=some .free
 fvs:∀y∈fv,sc.names.lookup y=some .free/\(wV.names.lookup y=some .cell\/wV.names.lookup y=some .free)
abbrev Ux (X:Cx)(xs:List Str)(js:List Nat):List Str:=xs++js.map fun j=>X.N.getD j ""
abbrev LC (σ:St)(js:List Nat)(os:List (Option V)):St:=os++js.map fun j=>σ.getD j none
def zkk (wi:TI)(xs:List Str)(js:List Nat)(g:TG)(tt:TT)(te:TE):TE:=fun σ H Q=>wi σ H fun J H1=>∃W:Nat->Nat->List V->Hp->Prop,(∃m,W 0 m [] H1)/\∀i m ys H,W i m ys H ->
 (J.stop i H/\∀p,H p=none->Q (.ref p) (upd H p (.lst ys))) \/
 (J.go i H/\ys.length<sizeLine/\∀x H',J.Qe i H x H'->∀o0:List (Option V),o0.length=xs.length->g x (LC σ js o0) H' fun σ2 H1=>∃o1,σ2=LC σ js o1/\o1.length=xs.length/\tt σ2 H1 fun b H2 =>
  if b=true then te σ2 H2 fun v H3=>∃m',m'<m/\W (i+1) m' (ys++[v]) H3 else ∃m',m'<m/\W (i+1) m' ys H2)
section
variable {X:Cx}{sc wV:Scope}{xs:List Str}{js:List Nat}
theorem zkl {pins:List (Addr×Obj)}{σ:St}{H:Hp}{s:Shared}{fp:List Addr}{C:Addr}(I:Inv X pins σ H s)(Ys:X.env.scope=wV)(L:zen wV sc xs (js.map fun j=>X.N.getD j ""))
  (f2:∀b∈fp,zbD X pins H b)(lt:∀b∈fp,b<s.heap.objs.size)(hC:s.heap.objs.size<=C):(X.blk sc (clo sc.names X.env.cells []) C (Ux X xs js) s H fp).Ok where
 mod:=I.ok.mod
 kind:=L.kind
 glob:=I.ok.glob
 blt:=I.ok.blt
 above:=hC
 inj:=fun y z c h1 h2=>I.ok.inj y z c (V4 _ _ [] (fun _ _ e=>by simp at e) y c h1) (V4 _ _ [] (fun _ _ e=>by simp at e) z c h2)
 has:=fun y hy=>by
  have hy':(relabel sc X.env).names.lookup y=some .cell\/(relabel sc X.env).names.lookup y=some .free:=hy
  have hm:(y,NameKind.free)∈sc.names:=by
   rcases hy' with e | e
   ·exact Xy e (.inl rfl) L.Uw
   ·exact Xy e (.inr rfl) L.Uw
  have ho:X.env.kindOf y=some .cell\/X.env.kindOf y=some .free:=by
   show X.env.scope.names.lookup y=_\/X.env.scope.names.lookup y=_
   rw[Ys]
   exact L.fr _ hm rfl
  obtain⟨c,e⟩:=I.ok.has y ho
  exact Option.isSome_iff_exists.mp (zc1 _ _ [] y hm (by rw[e];rfl))
 cab:=fun y c h=>by cases h
 hd:=I.ok.hd
 frames:=I.ok.frames
 stk:=.inl rfl
 exf:=fun b hb=>⟨ztr (ztl (lt b hb) hC),fun y c e=>(f2 b hb).2.2.2.2.1 y c (V4 _ _ [] (fun _ _ e=>by simp at e) y c e)⟩
 bs:=I.bs
 bsz:=zty I.ok.bsz I.sz
 zhB:=fun b o e hb=>by
  rcases (f2 b hb).2.2.2.1 with z | z
  ·exact I.ok.zhB b o e z
  ·exact absurd (ztl (ztj (I.ok.bs b o e).1) z) (Nat.lt_irrefl _)
 zhC:=fun b hb hm=>by
  rcases List.mem_cons.mp (I.zcN b hm) with z | z
  ·exact(f2 b hb).2.1 z
  ·exact(f2 b hb).2.2.1 z
 LK:=I.stack
 frf:=I.zgJ
end
section
variable {X:Cx}{sc wV:Scope}{xs:List Str}{js:List Nat}{tg:Expr}{g:TG}{elt iter:Expr}{px pos:Pos}{ifs:List Expr}{wi:TI}{tt:TT}{te:TE}
theorem ziH {cl:List (Str×Addr)}{C D:Addr}{s₂:Shared}{H₂:Hp}{fp:List Addr}{pl:List (Addr×Obj)}{σ0:St}{H:Hp}{s:Shared}{u:Value}{v:V}{its:List Value}{n:Nat}{o0:List (Option V)}{E:Value->Shared->Prop}
  {Ny:V->Hp->Prop}{Nn:Hp->Prop}
  (hg:PG (X.blk sc cl C (Ux X xs js) s₂ H₂ fp) tg g)
  (I:Inv (X.blk sc cl C (Ux X xs js) s₂ H₂ fp) ((D,uo its n)::pl) (LC σ0 js o0) H s)(ru:RelV v u)
  (ht:∀(pins:List (Addr×Obj)) (s':Shared) (σ':St) (H':Hp) (Q:Bool->Hp->Prop),Inv (X.blk sc cl C (Ux X xs js) s₂ H₂ fp) pins σ' H' s'->tt σ' H' Q ->
   wpAny (model X.prog X.w) X.A (YL ifs (compEnvC sc cl C X.env)) (TP (X.blk sc cl C (Ux X xs js) s₂ H₂ fp) pins σ' Q) (fun _ _=>False) s')
  (he:PE (X.blk sc cl C (Ux X xs js) s₂ H₂ fp) elt te)
  (hlen:its.length<sizeLine)(hD0:s₂.heap.objs.size<=D)(hDC:D≠C)(hDc:∀y c,cl.lookup y=some c->c≠D)(hDp:∀p∈pl,p.1≠D)
  (h:g v (LC σ0 js o0) H fun σ2 H1=>∃o1,σ2=LC σ0 js o1/\o1.length=xs.length/\tt σ2 H1 fun b H2=>if b=true then te σ2 H2 Ny else Nn H2) :
  wpAny (model X.prog X.w) X.A (assign tg (compEnvC sc cl C X.env) u) (fun _ s2 =>
   wpAny (model X.prog X.w) X.A (YL ifs (compEnvC sc cl C X.env)) (fun ok s3 =>
    if ok=true then wpAny (model X.prog X.w) X.A (eval elt (compEnvC sc cl C X.env)) (fun y s4 =>
     wpAny (model X.prog X.w) X.A (call (.builtin "list.append") [.ref D,y]) (fun _ s5=>∃z y' H5 o1,o1.length=xs.length/\Ny z H5/\RelV z y'/\Inv (X.blk sc cl C (Ux X xs js) s₂ H₂ fp) ((D,uo (its++[y']) (n+1))::pl) (LC σ0 js o1) H5 s5) E s4) E s3
    else ∃H5 o1,o1.length=xs.length/\Nn H5/\Inv (X.blk sc cl C (Ux X xs js) s₂ H₂ fp) ((D,uo its n)::pl) (LC σ0 js o1) H5 s3) E s2) E s:=by
 refine wpAny_mono (hg _ s _ H v u _ I ru h) (fun _ s2 ⟨σ6,H6,I6,o1,e1,l1,h6⟩=>?_) fun _ _ z=>False.elim z
 subst e1
 refine wpAny_mono (ht _ s2 _ _ _ I6 h6) (fun ok s3 ⟨H7,I7,q7⟩=>?_) fun _ _ z=>False.elim z
 cases ok with
 | false =>
  rw[if_neg ztg] at q7 ⊢
  exact⟨H7,o1,l1,q7,I7⟩
 | true =>
  rw[if_pos rfl] at q7 ⊢
  refine wpAny_mono (he _ s3 _ H7 _ I7 q7) (fun y s4 ⟨z,H8,I8,r8,q8⟩=>?_) fun _ _ z=>False.elim z
  obtain⟨p1,p2,p3,p4,p5⟩:=I8.pin (D,uo its n) (ztt _ ztw)
  have p1':s4.heap.get? D=some { cls:=.type "list", data:=.seq its.toArray n }:=p1
  refine call_meets F.slot_list_append ⟨_,p1',rfl⟩ F.entry_list_append (F.args_list_append_2 _ _) (PySem.list_append D its.toArray n y (by rw[ztm];omega)) ⟨p1',?_⟩
  have q:=PySem.IsL.update p1' (fun a=>a.push y)
  have sz:((its.toArray.push y).size==its.toArray.size)=false:=by simp
  have e3:(s4.heap.update D (Obj.mapSeq fun a=>a.push y)).get? D=some (uo (its++[y]) (n+1)):=by
   have q':(s4.heap.update D (Obj.mapSeq fun a=>a.push y)).get? D=some { cls:=.type "list", data:=.seq (its.toArray.push y) (if ((its.toArray.push y).size==its.toArray.size)=true then n else n+1) }:=q
   rw[q',sz,if_neg ztg]
   simp
  have I9:Inv (X.blk sc cl C (Ux X xs js) s₂ H₂ fp) pl (LC σ0 js o1) H8 s4:=I8.Xx fun p hp=>I8.pin p (ztt _ (ztn _ hp))
  have oth:∀b o,b≠D->s4.heap.get? b=some o->(s4.heap.update D (Obj.mapSeq fun a=>a.push y)).get? b=some o:=fun b o hb e=>(Heap.get?_update_other _ _ (Ne.symm hb)).trans e
  have I10:=I9.turned (t':=s4.toks) (h':=s4.heap.update D (Obj.mapSeq fun a=>a.push y)) (it:=D) oth p2 hDC (.inr hD0) hDc (fun p hp=>hDp p hp)
  refine⟨z,y,H8,o1,l1,q8,r8,I10.Xx fun p hp=>?_⟩
  rcases List.mem_cons.mp hp with e | e
  ·subst e
   exact⟨e3,p2,p3,p4,fun w hw=>by cases hw⟩
  ·exact I10.pin p (ztt _ e)
theorem zaG {use:Option (Value->Sem Unit)}{QQ:Value->Shared->Prop}{Fin:List V->Hp->Prop}{pins:List (Addr×Obj)}{s:Shared}{σ:St}{H:Hp}(Ys:X.env.scope=wV)(L:zen wV sc xs (js.map fun j=>X.N.getD j "")){rd:Cx->Prop}(hc:∀sc cl C N s H fp,rd (X.blk sc cl C N s H fp))(hi:PIr rd X tg iter wi)(hg:∀(cl:List (Str×Addr)) (C:Addr) (s₂:Shared) (H₂:Hp) (fp:List Addr),PG (X.blk sc cl C (Ux X xs js) s₂ H₂ fp) tg g)(hjs:∀j∈js,j<X.N.length)
  (ht:∀(cl:List (Str×Addr)) (C:Addr) (s₂:Shared) (H₂:Hp) (fp:List Addr) (pins:List (Addr×Obj)) (s':Shared) (σ':St) (H':Hp) (Q:Bool->Hp->Prop),Inv (X.blk sc cl C (Ux X xs js) s₂ H₂ fp) pins σ' H' s'->tt σ' H' Q ->
   wpAny (model X.prog X.w) X.A (YL ifs (compEnvC sc cl C X.env)) (TP (X.blk sc cl C (Ux X xs js) s₂ H₂ fp) pins σ' Q) (fun _ _=>False) s')
  (he:∀(cl:List (Str×Addr)) (C:Addr) (s₂:Shared) (H₂:Hp) (fp:List Addr),PE (X.blk sc cl C (Ux X xs js) s₂ H₂ fp) elt te)
  (hs:∀x,foldedSetIterable iter X.env x=pure x)(I:Inv X pins σ H s)
  (h:wi σ H fun J H1=>∃W:Nat->Nat->List V->Hp->Prop,(∃m,W 0 m [] H1)/\∀i m ys H,W i m ys H->(J.stop i H/\Fin ys H) \/
   (J.go i H/\ys.length<sizeLine/\∀x H',J.Qe i H x H'->∀o0:List (Option V),o0.length=xs.length->g x (LC σ js o0) H' fun σ2 H1=>∃o1,σ2=LC σ js o1/\o1.length=xs.length/\tt σ2 H1 fun b H2 =>
    if b=true then te σ2 H2 fun v H3=>∃m',m'<m/\W (i+1) m' (ys++[v]) H3 else ∃m',m'<m/\W (i+1) m' ys H2))
  (hfin:∀(D C:Addr) (s5:Shared) (H5:Hp) (ys:List V) (its:List Value) (k:Nat) (m5:Str->Option Value),Inv X pins σ H5 s5->Own X pins H5 D->Own X pins H5 C->D≠C->s5.heap.get? D=some (uo its k)->Vals ys its->ys.length<=sizeLine->s5.heap.Ns C m5->Fin ys H5 ->
   compPost (model X.prog X.w) X.A X.xe use QQ (.ref D) C (.ok .next) s5) :
  wpAny (model X.prog X.w) X.A (comprehension (.ListComp elt [⟨tg,iter,ifs,0⟩] sc pos) sc X.env (firstIterPos [⟨tg,iter,ifs,0⟩] pos) (newList []) false (eval iter X.env) use) QQ X.xe s:=by
 have hcl:closureFor sc X.env=pure (clo sc.names X.env.cells []):=zfV fun y hy=>by
  have ho:X.env.kindOf y=some .cell\/X.env.kindOf y=some .free:=by
   show X.env.scope.names.lookup y=_\/X.env.scope.names.lookup y=_
   rw[Ys]
   exact L.fr _ hy rfl
  obtain⟨c,e⟩:=I.ok.has y ho
  rw[e];rfl
 refine wpAny_comprehension_free (use:=use) rfl hs hcl L.kind L.names (wD (hi pins s σ H _ I h) fun v s1 h1=>wD h1 fun itv s2 h2=>?_)
 obtain⟨it,fp,tn,J,H2,e,I2,T,st2,f2,W,⟨m0,w0⟩,turn⟩:=h2
 subst e
 refine wpAny_newObj_type (wpAny_newFunctionEnv L.Uw (by intro y hy;simp at hy) (fun h₁ hns₁ hsb₁=>?_) L.kind)
 dsimp only at hns₁ hsb₁ ⊢
 generalize hG:s2.heap.push { cls:=.type "list", dict:=none,data:=.seq ([]:List Value).toArray }=G at hns₁ hsb₁ ⊢
 have hGs:G.objs.size=s2.heap.objs.size+1:=by rw[<-hG,Heap.size_push]
 have hCle:s2.heap.objs.size<=G.objs.size:=by rw[hGs];exact Nat.le_succ _
 have hDC:s2.heap.objs.size≠G.objs.size:=by rw[hGs];exact ztr (Nat.lt_succ_self _)
 have old:∀b o,s2.heap.get? b=some o->h₁.get? b=some o:=fun b o e=>by
  have lt:=ztj e
  refine hsb₁.extBut b o (ztr (ztl lt hCle)) (zti _ ?_)
  rw[<-hG]
  exact zti _ e
 have hacc:h₁.get? s2.heap.objs.size=some (uo [] 0):=by
  refine hsb₁.extBut _ _ hDC (zti _ ?_)
  rw[<-hG]
  exact ztx _ rfl
 have lt:∀b∈fp,b<s2.heap.objs.size:=fun b hb=>by
  obtain⟨o,e,_⟩:=T.obj _ _ st2 b hb
  exact ztj e
 have clS:∀y c,(clo sc.names X.env.cells []).lookup y=some c->X.env.cells.lookup y=some c:=V4 _ _ [] (fun _ _ e=>by simp at e)
 have zpg:∀y c,(clo sc.names X.env.cells []).lookup y=some c->c<s2.heap.objs.size:=fun y c e=>by
  obtain⟨v,o,q,_⟩:=I2.cell y c (clS y c e)
  exact ztj q
 have Bok:(X.blk sc (clo sc.names X.env.cells []) G.objs.size (Ux X xs js) s2 H2 fp).Ok:=zkl I2 Ys L f2 lt hCle
 have fresh:∀a,s2.heap.objs.size<=a->H2 a=none:=fun a ha=>I2.hok.fresh ha
 have zmi:∀b∈frs X.stack,b<s2.heap.objs.size:=fun b hb=>by
  rcases List.mem_cons.mp (I2.zcN b hb) with z | z
  ·rw[z];exact I2.lt
  ·refine Nat.lt_of_not_le fun q=>I2.zlW q z
 have B0:Inv (X.blk sc (clo sc.names X.env.cells []) G.objs.size (Ux X xs js) s2 H2 fp) [(s2.heap.objs.size,uo [] 0)] (LC σ js (List.replicate xs.length none)) H2 { s2 with heap:=h₁,toks:=s2.toks+([]:List (Str×Value)).length }:=by
  refine⟨Bok,rfl,I2.bare,Un.kept old,⟨_,hns₁,fun i y v e1 e2 e3=>?_⟩,fun y c e=>?_,fresh _ hCle,fun y c e=>I2.Sg y c (clS y c e),fun p hp=>?_,I2.hok.kept old,?_⟩
  ·by_cases hlt:i<xs.length
   ·exfalso
    have e2'':(List.replicate xs.length (none:Option V)++js.map fun j=>σ.getD j none)[i]?=some (some v):=e2
    rw[ztJ (by rw[List.length_replicate];exact hlt),List.getElem?_replicate,if_pos hlt] at e2''
    cases e2''
   ·have e1':(js.map fun j=>X.N.getD j "")[i-xs.length]?=some y:=by
     have z:(xs++js.map fun j=>X.N.getD j "")[i]?=some y:=e1
     rw[List.getElem?_append_right (by omega)] at z
     exact z
    have e2':(js.map fun j=>σ.getD j none)[i-xs.length]?=some (some v):=by
     have z:(List.replicate xs.length (none:Option V)++js.map fun j=>σ.getD j none)[i]?=some (some v):=e2
     rw[List.getElem?_append_right (by rw[List.length_replicate];omega),List.length_replicate] at z
     exact z
    have e1s:=e1'
    rw[zte] at e1' e2'
    cases hj:js[i-xs.length]? with
    | none=>rw[hj] at e1';cases e1'
    | some j =>
     rw[hj] at e1' e2'
     have e4:X.N.getD j ""=y:=ztH e1'
     have e5:σ.getD j none=some v:=ztH e2'
     have hjl:=hjs j (zth hj)
     have e6:X.N[j]?=some y:=by
      rw[ztp,ztd hjl] at e4
      rw[ztd hjl]
      exact congrArg some e4
     have e7:σ[j]?=some (some v):=by
      rw[ztp] at e5
      cases hq:σ[j]? with
      | none=>rw[hq] at e5;cases e5
      | some w=>rw[hq] at e5;exact congrArg some e5
     obtain⟨hm0,hk⟩:=L.fvs y (zth e1s)
     have hm:(y,NameKind.free)∈sc.names:=PySem.mem_of_lookup hm0
     have hk':X.env.kindOf y=some .cell\/X.env.kindOf y=some .free:=by
      show X.env.scope.names.lookup y=_\/X.env.scope.names.lookup y=_
      rw[Ys];exact hk
     have hv:Vis X.env.scope y:=by rcases hk' with z | z;exact .inr (.inl z);exact .inr (.inr z)
     obtain⟨m,hn,hl⟩:=I2.loc
     obtain⟨u,r,l⟩:=hl j y v e6 e7 hv
     refine⟨u,r,.inr ?_⟩
     rcases l with ⟨z,_⟩ | ⟨_,c,hc1,hc2⟩
     ·rw[z] at hk';rcases hk' with q | q<;>cases q
     ·have hs2:((clo sc.names X.env.cells []).lookup y).isSome=true:=zc1 _ _ [] y hm (by rw[hc1];rfl)
      obtain⟨c',hc'⟩:=Option.isSome_iff_exists.mp hs2
      have hcc:c'=c:=by have:=clS y c' hc';rw[hc1] at this;exact(ztH this).symm
      subst hcc
      obtain⟨o,ho,hd⟩:=hc2
      exact⟨zaF hm0,c',hc',o,old _ o ho,hd⟩
  ·obtain⟨v,o,q,d⟩:=I2.cell y c (clS y c e)
   exact⟨v,o,old _ o q,d⟩
  ·have e:p=(s2.heap.objs.size,uo [] 0):=by simpa using hp
   subst e
   exact⟨hacc,fresh _ (zts _),hDC,fun z=>Nat.lt_irrefl _ (zmi _ z),fun w hw=>by cases hw⟩
  ·show _=(Ux X xs js).length
   simp
 have stat:∀{H':Hp} {pl:List (Addr×Obj)},(∀b∈fp,H' b=none)->(∀p∈pl,p.1=s2.heap.objs.size)->∀b∈fp,zbD (X.blk sc (clo sc.names X.env.cells []) G.objs.size (Ux X xs js) s2 H2 fp) pl H' b:=fun hn hp b hb =>
  ⟨hn b hb,(Bok.exf b hb).1,Bok.zhC b hb,.inl hb,(Bok.exf b hb).2,fun p hm=>by
   rw[hp p (by simpa using hm)]
   exact Ne.symm (ztr (lt b hb))⟩
 have loop:∀s3:Shared,s3={ s2 with heap:=h₁,toks:=s2.toks+([]:List (Str×Value)).length } ->
   codeAny (model X.prog X.w) X.A (.compLoop (.ListComp elt [⟨tg,iter,ifs,0⟩] sc pos) 0 (.ref it) (.ref s2.heap.objs.size) (compEnvC sc (clo sc.names X.env.cells []) G.objs.size X.env))
    (compPost (model X.prog X.w) X.A X.xe use QQ (.ref s2.heap.objs.size) G.objs.size) s3:=by
  rintro s3 rfl
  refine zkj (fun n s'=>∃i ys its k o0 H',o0.length=xs.length/\Inv (X.blk sc (clo sc.names X.env.cells []) G.objs.size (Ux X xs js) s2 H2 fp) [(s2.heap.objs.size,uo its k)] (LC σ js o0) H' s'/\tn i s'.heap/\(∀b∈fp,H' b=none)/\Vals ys its/\ys.length<=sizeLine/\W i n ys H') ?_ m0
   ⟨0,[],[],0,List.replicate xs.length none,H2,List.length_replicate,B0,T.keep _ _ _ st2 fun b _ o e=>old b o e,fun b hb=>(f2 b hb).1,.nil,ztz _,w0⟩
  rintro n s4 ⟨i,ys,its,k,o0,H4,lo0,I4,st4,fr4,vs4,z4,w4⟩
  have one:∀p∈[(s2.heap.objs.size,uo its k)],p.1=s2.heap.objs.size:=fun p hp=>by
   have e:p=(s2.heap.objs.size,uo its k):=by simpa using hp
   rw[e]
  rcases turn i n ys H4 w4 with ⟨stop,qn⟩ | ⟨go,zl,step⟩
  ·refine wD (T.done (X.blk sc (clo sc.names X.env.cells []) G.objs.size (Ux X xs js) s2 H2 fp) rfl rfl rfl (hc _ _ _ _ _ _ _) i _ s4 _ H4 _ I4 (stat fr4 one) st4 stop) fun r s5 ⟨hr,I5⟩=>?_
   subst hr
   obtain⟨m5,hn5,_⟩:=I5.loc
   obtain⟨p1,p2,p3,p4,p5⟩:=I5.pin (s2.heap.objs.size,uo its k) (by simp)
   have ch:∀b∈fp,(b∈X.ex\/X.s₀.heap.objs.size<=b)/\b≠X.env.locals/\(∀x c,X.env.cells.lookup x=some c->c≠b)/\∀p∈X.pn++pins,p.1≠b:=fun b hb =>
    ⟨(f2 b hb).2.2.2.1,(f2 b hb).2.1,(f2 b hb).2.2.2.2.1,(f2 b hb).2.2.2.2.2⟩
   have J1:Inv X pins σ H4 s5:=I2.call' I5.os I5.base I5.hok I5.bare ch
   have ltp:∀p∈X.pn++pins,p.1<s2.heap.objs.size:=fun p hp=>ztj (I2.pin p hp).1
   have ltc:∀y c,X.env.cells.lookup y=some c->c<s2.heap.objs.size:=fun y c e=>by
    obtain⟨v,o,q,_⟩:=I2.cell y c e
    exact ztj q
   have s0:X.s₀.heap.objs.size<=s2.heap.objs.size:=I2.sz
   have own:∀a,s2.heap.objs.size<=a->H4 a=none->Own X pins H4 a:=fun a ha hn=>⟨hn,Ne.symm (ztr (ztl I2.lt ha)),zty s0 ha,fun y c e=>ztr (ztl (ltc y c e) ha),
    fun p hp=>ztr (ztl (ltp p hp) ha),I2.zlW ha⟩
   exact hfin _ _ s5 H4 ys its k m5 J1 (own _ (zts _) p2) (own _ hCle I5.free) hDC p1 vs4 z4 hn5 qn
  ·refine wD (T.item (X.blk sc (clo sc.names X.env.cells []) G.objs.size (Ux X xs js) s2 H2 fp) rfl rfl rfl (hc _ _ _ _ _ _ _) i _ s4 _ H4 _ I4 (stat fr4 one) st4 go) fun r s5 ⟨u,hr,h5⟩=>?_
   subst hr
   refine wpAny_mono h5 (fun _ s5' ⟨v,H6,I6,r6,y6,st6,fr6⟩=>?_) fun _ _ z=>z
   have I7:=I6.pinned (stat fr6 one) (T.obj _ _ st6)
   have zpj:∀p∈PK fp s5'.heap,p.1≠s2.heap.objs.size:=fun p hp=>ztr (lt _ (zb9 hp).1)
   have zrv:=vs4.length
   have back:∀{its':List Value} {k':Nat} {H7:Hp} {s7:Shared} {ys':List V} {m':Nat} {o1:List (Option V)},o1.length=xs.length->Inv (X.blk sc (clo sc.names X.env.cells []) G.objs.size (Ux X xs js) s2 H2 fp) ((s2.heap.objs.size,uo its' k')::PK fp s5'.heap) (LC σ js o1) H7 s7 ->
     Vals ys' its'->ys'.length<=sizeLine->m'<n->W (i+1) m' ys' H7->∃m,m<n/\∃i ys its k o0 H',o0.length=xs.length/\Inv (X.blk sc (clo sc.names X.env.cells []) G.objs.size (Ux X xs js) s2 H2 fp) [(s2.heap.objs.size,uo its k)] (LC σ js o0) H' s7/\tn i s7.heap/\(∀b∈fp,H' b=none)/\Vals ys its/\ys.length<=sizeLine/\W i m ys H':=by
    intro its' k' H7 s7 ys' m' o1 l1 J vs' z' hm w'
    refine⟨m',hm,i+1,ys',its',k',o1,H7,l1,J.Xx fun p hp=>J.pin p (ztt _ (by simp at hp;simp[hp])),?_,?_,vs',z',w'⟩
    ·exact T.keep _ _ _ st6 fun b hb o e=>(J.pin (b,o) (ztt _ (ztn _ (Ut hb e)))).1
    ·intro b hb
     obtain⟨o,e,_⟩:=T.obj _ _ st6 b hb
     exact(J.pin (b,o) (ztt _ (ztn _ (Ut hb e)))).2.1
   refine wpAny_mono (ziH (X:=X) (sc:=sc) (xs:=xs) (js:=js) (tg:=tg) (g:=g) (elt:=elt) (ifs:=ifs) (tt:=tt) (te:=te) (D:=s2.heap.objs.size) (its:=its) (n:=k) (pl:=PK fp s5'.heap)
    (hg _ _ _ _ _) I7 r6 (ht _ _ _ _ _) (he _ _ _ _ _) (by omega) (zts _) hDC (fun y c e=>ztr (zpg y c e)) zpj (step v H6 y6 o0 lo0)) (fun _ s6 h6=>?_) fun _ _ z=>z
   refine wpAny_mono h6 (fun ok s7 h7=>?_) fun _ _ z=>z
   cases ok with
   | false =>
    rw[if_neg ztg] at h7 ⊢
    obtain⟨H7,o1,l1,⟨m',hm,w'⟩,J⟩:=h7
    exact back l1 J vs4 z4 hm w'
   | true =>
    rw[if_pos rfl] at h7 ⊢
    refine wpAny_mono h7 (fun y s8 h8=>?_) fun _ _ z=>z
    refine wpAny_mono h8 (fun _ s9 h9=>?_) fun _ _ z=>z
    obtain⟨z,y',H9,o1,l1,⟨m',hm,w'⟩,rz,J⟩:=h9
    refine back l1 J (vs4.append (.cons rz .nil)) ?_ hm w'
    rw[ztk,ztK]
    omega
 exact codeAny_compStart_list (loop _ rfl) (T.self _ 0 _ _ _ (T.keep _ _ _ st2 fun b _ o e=>old b o e) (loop _ rfl))
end
section
variable {X:Cx}{sc wV:Scope}{x:Str}{js:List Nat}{elt iter:Expr}{px pos:Pos}{ifs:List Expr}{wi:TI}{tt:TT}{te:TE}
theorem zgV {use:Option (Value->Sem Unit)}{QQ:Value->Shared->Prop}{Fin:List V->Hp->Prop}{pins:List (Addr×Obj)}{s:Shared}{σ:St}{H:Hp}(Ys:X.env.scope=wV)(L:uX wV sc x (js.map fun j=>X.N.getD j "")){rd:Cx->Prop}(hc:∀sc cl C N s H fp,rd (X.blk sc cl C N s H fp))(hi:PIr rd X (.Name x px) iter wi)(hjs:∀j∈js,j<X.N.length)
  (ht:∀(cl:List (Str×Addr)) (C:Addr) (s₂:Shared) (H₂:Hp) (fp:List Addr) (pins:List (Addr×Obj)) (s':Shared) (σ':St) (H':Hp) (Q:Bool->Hp->Prop),Inv (X.blk sc cl C (lcN X x js) s₂ H₂ fp) pins σ' H' s'->tt σ' H' Q ->
   wpAny (model X.prog X.w) X.A (YL ifs (compEnvC sc cl C X.env)) (TP (X.blk sc cl C (lcN X x js) s₂ H₂ fp) pins σ' Q) (fun _ _=>False) s')
  (he:∀(cl:List (Str×Addr)) (C:Addr) (s₂:Shared) (H₂:Hp) (fp:List Addr),PE (X.blk sc cl C (lcN X x js) s₂ H₂ fp) elt te)
  (hs:∀x,foldedSetIterable iter X.env x=pure x)(I:Inv X pins σ H s)
  (h:wi σ H fun J H1=>∃W:Nat->Nat->List V->Hp->Prop,(∃m,W 0 m [] H1)/\∀i m ys H,W i m ys H->(J.stop i H/\Fin ys H) \/
   (J.go i H/\ys.length<sizeLine/\∀x H',J.Qe i H x H'->tt (Zx σ js (some x)) H' fun b H2 =>
    if b=true then te (Zx σ js (some x)) H2 fun v H3=>∃m',m'<m/\W (i+1) m' (ys++[v]) H3 else ∃m',m'<m/\W (i+1) m' ys H2))
  (hfin:∀(D C:Addr) (s5:Shared) (H5:Hp) (ys:List V) (its:List Value) (k:Nat) (m5:Str->Option Value),Inv X pins σ H5 s5->Own X pins H5 D->Own X pins H5 C->D≠C->s5.heap.get? D=some (uo its k)->Vals ys its->ys.length<=sizeLine->s5.heap.Ns C m5->Fin ys H5 ->
   compPost (model X.prog X.w) X.A X.xe use QQ (.ref D) C (.ok .next) s5) :
  wpAny (model X.prog X.w) X.A (comprehension (.ListComp elt [⟨.Name x px,iter,ifs,0⟩] sc pos) sc X.env (firstIterPos [⟨.Name x px,iter,ifs,0⟩] pos) (newList []) false (eval iter X.env) use) QQ X.xe s:=by
 have e:(fun(J:It) (H1:Hp)=>∃W:Nat->Nat->List V->Hp->Prop,(∃m,W 0 m [] H1)/\∀i m ys H,W i m ys H->(J.stop i H/\Fin ys H) \/
   (J.go i H/\ys.length<sizeLine/\∀x H',J.Qe i H x H'->tt (Zx σ js (some x)) H' fun b H2 =>
    if b=true then te (Zx σ js (some x)) H2 fun v H3=>∃m',m'<m/\W (i+1) m' (ys++[v]) H3 else ∃m',m'<m/\W (i+1) m' ys H2)) =
   (fun(J:It) (H1:Hp)=>∃W:Nat->Nat->List V->Hp->Prop,(∃m,W 0 m [] H1)/\∀i m ys H,W i m ys H->(J.stop i H/\Fin ys H) \/
   (J.go i H/\ys.length<sizeLine/\∀y H',J.Qe i H y H'->∀o0:List (Option V),o0.length=[x].length->uF 0 y (LC σ js o0) H' fun σ2 H1=>∃o1,σ2=LC σ js o1/\o1.length=[x].length/\tt σ2 H1 fun b H2 =>
    if b=true then te σ2 H2 fun v H3=>∃m',m'<m/\W (i+1) m' (ys++[v]) H3 else ∃m',m'<m/\W (i+1) m' ys H2)):=by
  funext J H1
  refine propext ⟨fun⟨W,w0,w1⟩=>⟨W,w0,fun i m ys H hw=>?_⟩,fun⟨W,w0,w1⟩=>⟨W,w0,fun i m ys H hw=>?_⟩⟩
  ·rcases w1 i m ys H hw with a | ⟨a,b,c⟩
   ·exact .inl a
   ·refine .inr ⟨a,b,fun y H' hy o0 ho=>?_⟩
    match o0,ho with
    | [o],_=>exact⟨[some y],rfl,rfl,c y H' hy⟩
  ·rcases w1 i m ys H hw with a | ⟨a,b,c⟩
   ·exact .inl a
   ·refine .inr ⟨a,b,fun y H' hy=>?_⟩
    obtain⟨o1,e1,e2,e3⟩:=c y H' hy [none] rfl
    exact e3
 rw[e] at h
 exact zaG (xs:=[x]) (g:=uF 0) Ys ⟨L.kind,L.Uw,L.names,L.fr,L.fvs⟩ hc hi (fun cl C s₂ H₂ fp=>yw (X:=X.blk sc cl C (Ux X [x] js) s₂ H₂ fp) L.nd rfl (.inl (lookup_relabel_local L.hx)) (.inr (lookup_relabel_local L.hx))) hjs ht he hs I h hfin
theorem zkm (Ys:X.env.scope=wV)(L:uX wV sc x (js.map fun j=>X.N.getD j "")){rd:Cx->Prop}(hc:∀sc cl C N s H fp,rd (X.blk sc cl C N s H fp))(hi:PIr rd X (.Name x px) iter wi)(hjs:∀j∈js,j<X.N.length)
  (ht:∀(cl:List (Str×Addr)) (C:Addr) (s₂:Shared) (H₂:Hp) (fp:List Addr) (pins:List (Addr×Obj)) (s':Shared) (σ':St) (H':Hp) (Q:Bool->Hp->Prop),Inv (X.blk sc cl C (lcN X x js) s₂ H₂ fp) pins σ' H' s'->tt σ' H' Q ->
   wpAny (model X.prog X.w) X.A (YL ifs (compEnvC sc cl C X.env)) (TP (X.blk sc cl C (lcN X x js) s₂ H₂ fp) pins σ' Q) (fun _ _=>False) s')
  (he:∀(cl:List (Str×Addr)) (C:Addr) (s₂:Shared) (H₂:Hp) (fp:List Addr),PE (X.blk sc cl C (lcN X x js) s₂ H₂ fp) elt te)
  (hs:∀x,foldedSetIterable iter X.env x=pure x:=by intro _;rfl) :
  PE X (.ListComp elt [⟨.Name x px,iter,ifs,0⟩] sc pos) (tLC wi js tt te):=by
 intro pins s σ H Q I h
 rw[eval_ListComp]
 refine zgV (use:=none) (Fin:=fun ys H=>∀p,H p=none->Q (.ref p) (upd H p (.lst ys))) Ys L hc hi hjs ht he hs I h fun D C s5 H5 ys its k m5 J oD oC hDC p1 vs z hn fin=>?_
 refine⟨m5,hn,fun h' hsb=>?_⟩
 have J2:Inv X pins σ H5 { s5 with heap:=h',toks:=s5.toks }:=J.turned (it:=C) (fun b o hb e=>hsb.extBut b o hb e) oC.free oC.loc (.inr oC.new) oC.cel oC.pin
 have p1':h'.get? D=some (uo its k):=hsb.extBut _ _ hDC p1
 have J3:Inv X pins σ (upd H5 D (.lst ys)) { s5 with heap:=h',toks:=s5.toks }:=J2.track oD.free oD.loc oD.new oD.cel oD.pin ⟨z,its,k,vs,p1'⟩
 exact⟨.ref D,_,J3,rfl,fin D oD.free⟩
theorem ziI (Ys:X.env.scope=wV)(L:uX wV sc x (js.map fun j=>X.N.getD j ""))(hc:X.calm=true)(hi:PI X (.Name x px) iter wi)(hjs:∀j∈js,j<X.N.length)
  (ht:∀(cl:List (Str×Addr)) (C:Addr) (s₂:Shared) (H₂:Hp) (fp:List Addr) (pins:List (Addr×Obj)) (s':Shared) (σ':St) (H':Hp) (Q:Bool->Hp->Prop),Inv (X.blk sc cl C (lcN X x js) s₂ H₂ fp) pins σ' H' s'->tt σ' H' Q ->
   wpAny (model X.prog X.w) X.A (YL ifs (compEnvC sc cl C X.env)) (TP (X.blk sc cl C (lcN X x js) s₂ H₂ fp) pins σ' Q) (fun _ _=>False) s')
  (he:∀(cl:List (Str×Addr)) (C:Addr) (s₂:Shared) (H₂:Hp) (fp:List Addr),PE (X.blk sc cl C (lcN X x js) s₂ H₂ fp) elt te)
  (hs:∀x,foldedSetIterable iter X.env x=pure x:=by intro _;rfl) :
  PE X (.ListComp elt [⟨.Name x px,iter,ifs,0⟩] sc pos) (tLC wi js tt te) :=
 zkm Ys L (rd:=Calm) (fun _ _ _ _ _ _ _=>hc) hi hjs ht he hs
def sLC (i:Nat)(wi:TI)(js:List Nat)(tt:TT)(te:TE):TS:=fun D σ H=>tLC wi js tt te σ H fun v H1=>D.nx (σ.set i (some v)) H1
theorem zaH {i:Nat}{y:Str}{py spos:Pos}(hN:X.N.Nodup)(hy:X.N[i]?=some y)(hl:Loc X.env.scope y)(hf:X.fn y=true\/X.env.scope.names.lookup y=some .local)
  (Ys:X.env.scope=wV)(L:uX wV sc x (js.map fun j=>X.N.getD j ""))(hc:X.calm=true)(hi:PI X (.Name x px) iter wi)(hjs:∀j∈js,j<X.N.length)
  (ht:∀(cl:List (Str×Addr)) (C:Addr) (s₂:Shared) (H₂:Hp) (fp:List Addr) (pins:List (Addr×Obj)) (s':Shared) (σ':St) (H':Hp) (Q:Bool->Hp->Prop),Inv (X.blk sc cl C (lcN X x js) s₂ H₂ fp) pins σ' H' s'->tt σ' H' Q ->
   wpAny (model X.prog X.w) X.A (YL ifs (compEnvC sc cl C X.env)) (TP (X.blk sc cl C (lcN X x js) s₂ H₂ fp) pins σ' Q) (fun _ _=>False) s')
  (he:∀(cl:List (Str×Addr)) (C:Addr) (s₂:Shared) (H₂:Hp) (fp:List Addr),PE (X.blk sc cl C (lcN X x js) s₂ H₂ fp) elt te)
  (hsw:swapsWith (.ListComp elt [⟨.Name x px,iter,ifs,0⟩] sc pos) (some (.Name y py)) spos.line X.env=pure true)(hs:∀x,foldedSetIterable iter X.env x=pure x:=by intro _;rfl) :
  PS X (.Assign [.Name y py] (.ListComp elt [⟨.Name x px,iter,ifs,0⟩] sc pos) spos) (sLC i wi js tt te):=by
 intro pins s σ H D I h
 rw[exec_Assign_Name_used _ _ _ _ hsw]
 refine wpAny_bind (wpAny_standAt (wpAny_bind ?_))
 show wpAny _ _ (do let _ <-comprehension (.ListComp elt [⟨.Name x px,iter,ifs,0⟩] sc pos) sc X.env _ (newList []) false (eval iter X.env) (some (assign (.Name y py) X.env))) _ _ s
 have pg:=yw (X:=X) (i:=i) (x:=y) (pos:=py) hN hy hl hf
 refine wpAny_bind (wpAny_mono (zgV (use:=some (assign (.Name y py) X.env)) (QQ:=fun _ z=>SP X pins D .next z) (Fin:=fun ys H=>∀p,H p=none->D.nx (σ.set i (some (.ref p))) (upd H p (.lst ys))) Ys L (rd:=Calm) (fun _ _ _ _ _ _ _=>hc) hi hjs ht he hs I h fun A C s5 H5 ys its k m5 J oD oC hDC p1 vs z hn fin=>?_) (fun _ z hq=>wpAny_pure (wpAny_pure hq)) fun _ _ e=>e)
 have J1:Inv X pins σ (upd H5 A (.lst ys)) s5:=J.track oD.free oD.loc oD.new oD.cel oD.pin ⟨z,its,k,vs,p1⟩
 obtain⟨oc,es,ep,hC,hd,hr⟩:=hn
 have Uw:∀v,oc.data≠.cell v:=fun v q=>by rw[hd] at q;cases q
 have hCA:C≠A:=Ne.symm hDC
 have fC:(upd H5 A (.lst ys)) C=none:=by rw[zG hCA];exact oC.free
 have J2:Inv X (pins++[(C,oc)]) σ (upd H5 A (.lst ys)) s5:=J1.Xx fun p hp=>(List.mem_append.mp hp).elim (fun q=>J1.pin p (ztt _ q)) fun q=>by
  have e:p=(C,oc):=by simpa using q
  subst e
  exact⟨hC,fC,oC.loc,oC.fs,Uw⟩
 refine wpAny_mono (pg _ s5 σ _ (.ref A) (.ref A) (fun σ6 H6=>σ6=σ.set i (some (.ref A))/\H6=upd H5 A (.lst ys)) J2 rfl ⟨rfl,rfl⟩) (fun _ s6 ⟨σ6,H6,I6,e1,e2⟩=>?_) fun _ _ e=>e
 subst e1 e2
 obtain⟨c1,c2,_⟩:=I6.pin (C,oc) (ztt _ (ztt _ (by simp)))
 refine⟨m5,⟨oc,es,ep,c1,hd,hr⟩,fun h' hsb=>?_⟩
 have J3:Inv X pins (σ.set i (some (.ref A))) (upd H5 A (.lst ys)) s6:=I6.Xx fun p hp=>I6.pin p (ztt _ (List.mem_append_left _ hp))
 have J4:Inv X pins (σ.set i (some (.ref A))) (upd H5 A (.lst ys)) { s6 with heap:=h',toks:=s6.toks }:=J3.turned (it:=C) (fun b o hb e=>hsb.extBut b o hb e) c2 oC.loc (.inr oC.new) oC.cel oC.pin
 exact⟨_,_,J4,fin A oD.free⟩
end
section
variable {X:Cx}
def Sv:TT:=fun _ H Q=>Q true H
theorem vg {sc wV:Scope}{x:Str}{js:List Nat}{elt iter:Expr}{px pos:Pos}{wi:TI}{te:TE}(Ys:X.env.scope=wV)(L:uX wV sc x (js.map fun j=>X.N.getD j ""))(hc:X.calm=true)(hi:PI X (.Name x px) iter wi)(hjs:∀j∈js,j<X.N.length)
  (he:∀(cl:List (Str×Addr)) (C:Addr) (s₂:Shared) (H₂:Hp) (fp:List Addr),PE (X.blk sc cl C (lcN X x js) s₂ H₂ fp) elt te)
  (hs:∀x,foldedSetIterable iter X.env x=pure x:=by intro _;rfl) :
  PE X (.ListComp elt [⟨.Name x px,iter,[],0⟩] sc pos) (tLC wi js Sv te) :=
 ziI Ys L hc hi hjs (fun cl C s₂ H₂ fp pins s' σ' H' Q I h=>wpAny_pure ⟨H',I,h⟩) he hs
theorem zc2 {sc wV:Scope}{x:Str}{js:List Nat}{elt iter c:Expr}{px pos:Pos}{wi:TI}{te:TE}{tt:TT}(Ys:X.env.scope=wV)(L:uX wV sc x (js.map fun j=>X.N.getD j ""))(hc:X.calm=true)(hi:PI X (.Name x px) iter wi)(hjs:∀j∈js,j<X.N.length)
  (ht:∀(cl:List (Str×Addr)) (C:Addr) (s₂:Shared) (H₂:Hp) (fp:List Addr),PT (X.blk sc cl C (lcN X x js) s₂ H₂ fp) c tt)
  (he:∀(cl:List (Str×Addr)) (C:Addr) (s₂:Shared) (H₂:Hp) (fp:List Addr),PE (X.blk sc cl C (lcN X x js) s₂ H₂ fp) elt te)
  (hs:∀x,foldedSetIterable iter X.env x=pure x:=by intro _;rfl) :
  PE X (.ListComp elt [⟨.Name x px,iter,[c],0⟩] sc pos) (tLC wi js tt te) :=
 ziI Ys L hc hi hjs (fun cl C s₂ H₂ fp pins s' σ' H' Q I h=>wpAny_tests_one (ht cl C s₂ H₂ fp pins s' σ' H' Q I h)) he hs
theorem zgW {K:Frag}{a:Addr}{xs:List V}{σ:St}{js:List Nat}{tt:TT}{te:TE}{H:Hp}{Qf:Addr->Hp->List V->Prop}(Pv:Nat->List V->Hp->Prop)(h0:Pv 0 [] H)(hz:xs.length<=sizeLine)
  (hl:∀i ys H,i<=xs.length->Pv i ys H->zP K H a xs/\ys.length<=i)
  (hs:∀i x ys H,xs[i]?=some x->Pv i ys H->tt (Zx σ js (some x)) H fun b H2=>if b=true then te (Zx σ js (some x)) H2 fun v H3=>Pv (i+1) (ys++[v]) H3 else Pv (i+1) ys H2)
  (mt:∀ σ H Q Q',(∀b H1,Q b H1->Q' b H1)->tt σ H Q->tt σ H Q')(me:∀ σ H Q Q',(∀v H1,Q v H1->Q' v H1)->te σ H Q->te σ H Q')
  (hd:∀ys H p,Pv xs.length ys H->H p=none->Qf p H ys) :
  ∃W:Nat->Nat->List V->Hp->Prop,(∃m,W 0 m [] H)/\∀i m ys H,W i m ys H ->
   ((Itl K a).stop i H/\∀p,H p=none->Qf p H ys) \/
   ((Itl K a).go i H/\ys.length<sizeLine/\∀x H',(Itl K a).Qe i H x H'->tt (Zx σ js (some x)) H' fun b H2 =>
    if b=true then te (Zx σ js (some x)) H2 fun v H3=>∃m',m'<m/\W (i+1) m' (ys++[v]) H3 else ∃m',m'<m/\W (i+1) m' ys H2):=by
 refine⟨fun i m ys H=>m=xs.length-i/\i<=xs.length/\Pv i ys H,⟨xs.length,by simp,ztz _,h0⟩,?_⟩
 rintro i m ys H ⟨rfl,hi,p⟩
 obtain⟨q,hy⟩:=hl i ys H hi p
 by_cases hlt:i<xs.length
 ·refine .inr ⟨⟨xs,xs[i],q,by simp[hlt]⟩,by omega,fun x H' y=>?_⟩
  obtain⟨e,y⟩:=y
  subst e
  refine mt _ _ _ _ (fun b H2 h2=>?_) (hs i x ys _ (y xs q) p)
  cases b with
  | true =>
   rw[if_pos rfl] at h2 ⊢
   exact me _ _ _ _ (fun v H3 h3=>⟨_,by omega,rfl,hlt,h3⟩) h2
  | false =>
   rw[if_neg ztg] at h2 ⊢
   exact⟨_,by omega,rfl,hlt,h2⟩
 ·have e:i=xs.length:=by omega
  subst e
  exact .inl ⟨⟨xs,q,zts _⟩,fun pp hp=>hd ys H pp p hp⟩
theorem ziJ {K:Frag}{a:Addr}{xs:List V}{σ:St}{js:List Nat}{tt:TT}{te:TE}{H:Hp}{Qf:Addr->Hp->List V->Prop}(Pv:Nat->List V->Hp->Prop)(h0:Pv 0 [] H)(hz:xs.length<=sizeLine)
  (hl:∀i ys H,i<=xs.length->Pv i ys H->wY K H a xs/\ys.length<=i)
  (hs:∀i x ys H,xs[i]?=some x->Pv i ys H->tt (Zx σ js (some x)) H fun b H2=>if b=true then te (Zx σ js (some x)) H2 fun v H3=>Pv (i+1) (ys++[v]) H3 else Pv (i+1) ys H2)
  (mt:∀ σ H Q Q',(∀b H1,Q b H1->Q' b H1)->tt σ H Q->tt σ H Q')(me:∀ σ H Q Q',(∀v H1,Q v H1->Q' v H1)->te σ H Q->te σ H Q')
  (hd:∀ys H p,Pv xs.length ys H->H p=none->Qf p H ys) :
  ∃W:Nat->Nat->List V->Hp->Prop,(∃m,W 0 m [] H)/\∀i m ys H,W i m ys H ->
   ((Itt K a).stop i H/\∀p,H p=none->Qf p H ys) \/
   ((Itt K a).go i H/\ys.length<sizeLine/\∀x H',(Itt K a).Qe i H x H'->tt (Zx σ js (some x)) H' fun b H2 =>
    if b=true then te (Zx σ js (some x)) H2 fun v H3=>∃m',m'<m/\W (i+1) m' (ys++[v]) H3 else ∃m',m'<m/\W (i+1) m' ys H2):=by
 refine⟨fun i m ys H=>m=xs.length-i/\i<=xs.length/\Pv i ys H,⟨xs.length,by simp,ztz _,h0⟩,?_⟩
 rintro i m ys H ⟨rfl,hi,p⟩
 obtain⟨q,hy⟩:=hl i ys H hi p
 by_cases hlt:i<xs.length
 ·refine .inr ⟨⟨xs,xs[i],q,by simp[hlt]⟩,by omega,fun x H' y=>?_⟩
  obtain⟨e,y⟩:=y
  subst e
  refine mt _ _ _ _ (fun b H2 h2=>?_) (hs i x ys _ (y xs q) p)
  cases b with
  | true =>
   rw[if_pos rfl] at h2 ⊢
   exact me _ _ _ _ (fun v H3 h3=>⟨_,by omega,rfl,hlt,h3⟩) h2
  | false =>
   rw[if_neg ztg] at h2 ⊢
   exact⟨_,by omega,rfl,hlt,h2⟩
 ·have e:i=xs.length:=by omega
  subst e
  exact .inl ⟨⟨xs,q,zts _⟩,fun pp hp=>hd ys H pp p hp⟩
theorem zaI {x:V}:∀{xs:List V} {us:List Value},Vals xs us->xs.all wC=true->∀{j:Nat},xs.findIdx? (fun y=>eqV y x)=some j ->
  ∃hj:j<us.length,eqU x us[j]=true/\∀m (hm:m<us.length),m<j->eqU x us[m]=false
 | _,_,.nil,_,j,h=>by simp at h
 | y::xs,u::us,.cons r t,f,j,h=>by
  rw[List.all_cons,ztE] at f
  rw[List.findIdx?_cons] at h
  by_cases hy:eqV y x=true
  ·rw[if_pos hy] at h
   cases h
   refine⟨by simp,?_,fun m hm hlt=>absurd hlt (Nat.not_lt_zero _)⟩
   show eqU x u=true
   rw[zcY r f.1];exact hy
  ·rw[if_neg hy] at h
   cases hq:xs.findIdx? (fun y=>eqV y x) with
   | none=>rw[hq] at h;cases h
   | some k =>
    rw[hq] at h
    have e:k+1=j:=ztH h
    subst e
    obtain⟨hk,h1,h2⟩:=zaI t f.2 hq
    refine⟨by rw[zto];omega,h1,fun m hm hlt=>?_⟩
    cases m with
    | zero =>
     show eqU x u=false
     rw[zcY r f.1];exact Bool.eq_false_iff.mpr hy
    | succ m=>exact h2 m (by rw[zto] at hm;omega) (by omega)
def zml (K:Frag):V->List V->Hp->VK->Prop:=fun x vs H Q=>∃l xs y j,x=.ref l/\vs=[y]/\zP K H l xs/\wC y=true/\xs.all wC=true/\xs.findIdx? (fun z=>eqV z y)=some j/\Q (.int (j:Nat)) H
theorem Sw:MtM X "list.index" (zml X.K):=by
 intro pins s σ H x vs v us Q I rx rv h
 obtain⟨l,xs,y,j,rfl,rfl,hq,fy,fs,hj,q⟩:=h
 cases rx
 obtain⟨u,rfl,ru⟩:=rv.one
 obtain⟨its,r,⟨o,n,e,hc,hd,hdat⟩,hz⟩:=I.list hq
 obtain⟨cls,dd,dt,sl⟩:=o
 have hc':cls=.type "list" := hc
 have hdat':dt=.seq its.toArray n:=hdat
 subst hc' hdat'
 obtain⟨h1,h2,h3⟩:=zaI r fs hj
 have hl:=r.length
 have hn:=Uv
 refine call_meets F.slot_list_index ⟨_,e,rfl⟩ F.entry_list_index (F.args_list_index_2 _ _) (SeqAt.list_indexAt l its.toArray n dd sl u (eqU y) j (by simpa using h1) (by omega) (by simpa using h2) (fun m hm hlt=>by simpa using h3 m (by simpa using hm) hlt)) ⟨e,fun w hw=>V3 ru fy r fs w (by simpa using hw),?_⟩
 exact⟨.int (j:Nat),H,I.tok _,⟨_,rfl⟩,q⟩
def zkn:V->List V->Hp->VK->Prop:=fun x vs H Q=>∃l xs i y,x=.ref l/\vs=[.int i,y]/\H l=some (.lst xs)/\0<=i/\i<=(xs.length:Int)/\xs.length<sizeLine/\Q .non (upd H l (.lst (xs.take i.toNat++y::xs.drop i.toNat)))
theorem zfX {A:Around}{s:Shared}{P:Program}{w:World}{E:Value->Shared->Prop}{Q:Value->Shared->Prop}{l:Addr}{its:List Value}{n:Nat}{i:Int}{t:Tok}{u:Value}(e:s.heap.get? l=some { cls:=.type "list", data:=.seq its.toArray n })(h0:0<=i)(h1:i<=(its.length:Int))(hz:its.length<=sizeLine)
  (h:∀f:Array Value->Array Value,f its.toArray=(its.take i.toNat++u::its.drop i.toNat).toArray->Q .none { s with heap:=s.heap.update l (Obj.mapSeq f),toks:=s.toks }):wpAny (model P w) A (call (.builtin "list.insert") [.ref l,.int i t,u]) Q E s:=by
 have hn:=Uv
 have fit:¬(!Builtin.List.listFitsIndex i)=true:=by
  rw[fitsIndex_both (k:=i) (Int.le_trans (by decide) h0) (by omega)]
  exact ztg
 have hs3:its.toArray.size<=sizeLine:=by rw[ztm];exact hz
 have M:=AutoSeq1.list_insert_list_int_val_1 l its.toArray n i t u fit hs3
 refine call_meets F.slot_list_insert ⟨_,e,rfl⟩ F.entry_list_insert (F.args_list_insert_3 _ _ _) M ⟨e,?_⟩
 refine h _ ?_
 have hk:(if i<0 then (i+(its.toArray.size:Int)).toNat else min i.toNat its.toArray.size)=i.toNat:=by
  rw[if_neg (by omega),ztm]
  omega
 show(its.toArray.extract 0 (if i<0 then (i+(its.toArray.size:Int)).toNat else min i.toNat its.toArray.size)).push u++its.toArray.extract (if i<0 then (i+(its.toArray.size:Int)).toNat else min i.toNat its.toArray.size)=_
 rw[hk]
 apply Array.toList_inj.mp
 simp[List.take_of_length_le]
theorem Qi:MtM X "list.insert" zkn:=by
 intro pins s σ H x vs v us Q I rx rv h
 obtain⟨l,xs,i,y,rfl,rfl,hH,h0,h1,hz,q⟩:=h
 cases rx
 obtain⟨u,w,rfl,⟨t,rfl⟩,rw'⟩:=rv.two
 obtain⟨z,its,n,r,hl,e⟩:=I.zej hH
 refine zfX e h0 (by rw[<-hl];exact h1) (by omega) fun f hf=>?_
 refine⟨.non,_,I.zfU (its':=its.take i.toNat++w::its.drop i.toNat) hH e hf ((r.take i.toNat).append (.cons rw' (r.drop i.toNat))) ?_,rfl,q⟩
 rw[ztk,zto,ztA,List.length_drop]
 omega
def ziK (K:Frag):V->List V->Hp->VK->Prop:=fun x vs H Q=>∃l b xs zs,x=.ref l/\vs=[.ref b]/\H l=some (.lst xs)/\wY K H b zs/\xs.length+zs.length<=sizeLine/\Q .non (upd H l (.lst (xs++zs)))
theorem Kl (l:Addr)(its:Array Value)(n:Nat)(b:Addr)(its2:Array Value)(n2:Nat)(dd:Option Addr)(sl:Array (Option Value))(h0:¬(!its.isEmpty&&Builtin.List.listTooLong (its.size+its2.size))=true)(h1:its.size<=sizeLine)(h2:its.size+its2.size<=sizeLine+1) :
  Meets (Builtin.«list.extend» ⟨[.ref l,.ref b],[]⟩) (fun _ R s=>s.heap.get? l=some { cls:=.type "list", data:=.seq its n }/\s.heap.get? b=some { cls:=.type "tuple", dict:=dd,data:=.seq its2 n2,slots:=sl } /\
   R (.ok (.ret Value.none)) { s with heap:=s.heap.update l (Obj.mapSeq fun x=>x++its2),toks:=s.toks }) :=
 .of_wp fun prog w A R s h=>by
  obtain⟨hp,g,d,tk,os⟩:=s
  obtain⟨hl,hb,h⟩:=h
  have g1:=AutoSeq1.idx_int
  have g2:=AutoSeq1.sub_tuple_tuple
  have g3:=AutoSeq1.sub_list_list
  have g4:=AutoSeq1.sub_tuple_list
  have g5:=AutoSeq1.sub_list_tuple
  have hz:(its++its2).size<=sizeLine+1:=by rw[Array.size_append];exact h2
  wp_walk using (wpAny_updateSeq hl rfl (hz:=h1) (_hz':=hz)),AutoSeq1.wpAny_loadPart' hl,AutoSeq1.wpAny_loadPart' hb
  exact⟨_,rfl,h⟩
theorem zaJ:MtM X "list.extend" (ziK X.K):=by
 intro pins s σ H x vs v us Q I rx rv h
 obtain⟨l,b,xs,zs,rfl,rfl,hH,hB,hz,q⟩:=h
 cases rx
 obtain⟨u,rfl,ru⟩:=rv.one
 cases ru
 obtain⟨z,its,n,r,hl,e⟩:=I.zej hH
 obtain⟨its2,r2,⟨o,e2,hc,n2,hd⟩,z2⟩:=I.tuple hB
 obtain⟨cls,dd,dt,sl⟩:=o
 have hc':cls=.type "tuple" := hc
 have hd':dt=.seq its2.toArray n2:=hd
 subst hc' hd'
 have hl2:=r2.length
 have hsz:its.toArray.size+its2.toArray.size<=sizeLine:=by rw[ztm,ztm];omega
 have ziD:¬(!its.toArray.isEmpty&&Builtin.List.listTooLong (its.toArray.size+its2.toArray.size))=true:=by
  rw[zek hsz,Bool.and_false]
  exact ztg
 refine call_meets F.slot_list_extend ⟨_,e,rfl⟩ F.entry_list_extend (F.args_list_extend_2 _ _)
  (Kl l its.toArray n b its2.toArray n2 dd sl ziD (by rw[ztm];omega) (by omega)) ⟨e,e2,?_⟩
 refine⟨.non,_,I.zfU (its':=its++its2) hH e (by simp) (r.append r2) ?_,rfl,q⟩
 rw[ztk]
 omega
theorem zbI (bs:List Bool):((List.range bs.length).all fun i=>(bs[i]?).getD true)=bs.all id:=by
 rw[ztS,ztG,ztG]
 constructor
 ·intro h b hb
  obtain⟨i,hi,e⟩:=ztU hb
  have q:=h i (List.mem_range.mpr hi)
  rw[ztd hi,Option.getD_some,e] at q
  exact q
 ·intro h i hi
  have hi':=List.mem_range.mp hi
  rw[ztd hi',Option.getD_some]
  exact h _ (ztT hi')
theorem vW (hc:X.calm=true):ZK X (.builtin "all") (fun xs H Q=>∃(p:Addr) (bs:List Bool),xs=[.ref p]/\zP X.K H p (bs.map V.bl)/\Q (.bl (bs.all id)) H):=by
 intro pins s σ H xs us Q I r h
 obtain⟨p,bs,rfl,hq,q⟩:=h
 obtain⟨u,rfl,rx⟩:=vals1 r
 cases rx
 obtain⟨its,r',pl,hz⟩:=I.list hq
 have hlen:bs.length=its.length:=by have:=r'.length;rw[ztc] at this;exact this
 have hlt:p<s.heap.objs.size:=by obtain⟨_,e,_⟩:=pl.isList;exact ztj e
 refine call_all_walk (wpAny_pyIter_list pl.isList ?_)
 refine⟨s.heap.objs.size,[s.heap.objs.size,p],[s.heap.objs.size],its.toArray.size,_,_,fun i=>(bs[i]?).getD true,rfl,Walks.list (A:=X.A.in1) (I.ok.hd hc) _ p (ztr hlt) its.toArray,
  ⟨⟨_,ztx _ rfl,rfl,rfl⟩,pl.isList.push _⟩,fun i v s' Q' E' hP hQ=>?_,fun h' tk hk=>?_⟩
 ·have hP':its[i]?=some v:=by simpa using hP
  have hi:i<bs.length:=by
   have:=(ztf.mp hP').1
   omega
  obtain⟨w,hw,rw'⟩:=r'.get (i:=i) (x:=.bl bs[i]) (by rw[zte,ztd hi];rfl)
  rw[hP'] at hw
  cases hw
  cases rw'
  simp only[ztd hi,Option.getD_some] at hQ
  exact wpAny_truthy_bool hQ
 ·have kp:∀b o,s.heap.get? b=some o->h'.get? b=some o:=fun b o e=>hk b o (fun hm=>by
   rw[List.mem_singleton.mp hm] at e
   exact Nat.lt_irrefl _ (ztj e)) (zti _ e)
  refine⟨.bl _,H,I.kept kp,rfl,?_⟩
  rw[ztm,<-hlen,zbI]
  exact q
theorem Jf:ZK X (.builtin "isinstance") (fun xs H Q=>∃x T t b,xs=[x,.ty T]/\Mj X.K H x t/\PySem.W.kitOne X.K t (.type T)=some b/\Q (.bl b) H):=by
 intro pins s σ H xs us Q I r h
 obtain⟨x,T,t,b,rfl,ty,e,q⟩:=h
 obtain⟨u,w',rfl,rx,ry⟩:=vals2 r
 cases ry
 exact zhL I rx ty e fun tk=>⟨.bl b,H,I.tok _,rfl,q⟩
end
def met (acc:List Str)(x:Str):List Str:=if acc.any (·==x) then acc else acc++[x]
def dd (xs:List Str):List Str:=xs.foldl met []
theorem zgX (xs:List Str)(x:Str):dd (xs++[x])=met (dd xs) x:=by
 unfold dd
 rw[List.foldl_append]
 rfl
theorem zae (acc:List Str)(x k:Str):(met acc x).any (·==k)=(acc.any (·==k)||decide (k=x)):=by
 unfold met
 by_cases h:acc.any (·==x)=true
 ·rw[if_pos h]
  by_cases e:k=x
  ·subst e;rw[h];simp
  ·simp[e]
 ·rw[if_neg h,List.any_append]
  by_cases e:k=x
  ·subst e;simp
  ·have hb:(x==k)=false:=by simpa [beq_iff_eq] using (fun z:x=k=>e z.symm)
   simp[hb,e]
theorem Va (acc:List Str)(x:Str):(met acc x).length=if acc.any (·==x)=true then acc.length else acc.length+1:=by
 unfold met
 split<;>simp
theorem znr (xs:List Str):(dd xs).length<=xs.length:=by
 suffices h:∀acc:List Str,(xs.foldl met acc).length<=acc.length+xs.length by have:=h [];unfold dd;simpa using this
 induction xs with
 | nil=>intro acc;simp
 | cons x r ih =>
  intro acc
  rw[List.foldl_cons]
  have h1:=ih (met acc x)
  have h2:=Va acc x
  rw[zto]
  split at h2<;>omega
theorem ziL {xs:List Str}(h:xs.Nodup):(dd xs).length=xs.length:=by
 suffices g:∀acc:List Str,(∀x∈xs,acc.any (·==x)=false)->(xs.foldl met acc).length=acc.length+xs.length by have:=g [] (fun _ _=>rfl);unfold dd;simpa using this
 induction xs with
 | nil=>intro acc _;simp
 | cons x r ih =>
  intro acc ha
  obtain⟨hx,hr⟩:=List.nodup_cons.mp h
  rw[List.foldl_cons,ih hr (met acc x) (fun y hy=>?_),Va,ha x ztw]
  ·simp;omega
  ·rw[zae,ha y (ztn _ hy)]
   have:y≠x:=fun e=>hx (e ▸ hy)
   simp[this]
theorem zmm {xs:List Str}(h:¬xs.Nodup):(dd xs).length<xs.length:=by
 suffices g:∀acc:List Str,¬xs.Nodup->(xs.foldl met acc).length<acc.length+xs.length by have:=g [] h;unfold dd;simpa using this
 clear h
 have le:∀(ys acc:List Str),(ys.foldl met acc).length<=acc.length+ys.length:=fun ys=>by
  induction ys with
  | nil=>intro acc;simp
  | cons x r ih =>
   intro acc
   rw[List.foldl_cons]
   have h1:=ih (met acc x)
   have h2:=Va acc x
   rw[zto]
   split at h2<;>omega
 have mem:∀(ys acc:List Str) (x:Str),x∈ys->acc.any (·==x)=true->(ys.foldl met acc).length<acc.length+ys.length:=fun ys=>by
  induction ys with
  | nil=>intro acc x hx _;cases hx
  | cons y r ih =>
   intro acc x hx ha
   rw[List.foldl_cons,zto]
   rcases List.mem_cons.mp hx with e | hx
   ·subst e
    have h1:=le r (met acc x)
    have h2:=Va acc x
    rw[if_pos ha] at h2
    omega
   ·have h1:=ih (met acc y) x hx (by rw[zae,ha];rfl)
    have h2:=Va acc y
    split at h2<;>omega
 induction xs with
 | nil=>intro acc h;exact absurd List.nodup_nil h
 | cons x r ih =>
  intro acc h
  rw[List.foldl_cons,zto]
  by_cases hx:x∈r
  ·have h1:=mem r (met acc x) x hx (by rw[zae];simp)
   have h2:=Va acc x
   split at h2<;>omega
  ·have h1:=ih (met acc x) (fun hr=>h (List.nodup_cons.mpr ⟨hx,hr⟩))
   have h2:=Va acc x
   split at h2<;>omega
abbrev zaK (led:Bool):Obj:={ cls:=.type "set", dict:=none,data:=.set #[] 0 (.fresh 0 0 led) }
section
variable {P:Program}{w:World}{A:Around}{R:Result->Shared->Prop}{E:Value->Shared->Prop}{s:Shared}
theorem ziM {I:Addr}{fp wr:List Addr}{G:Array GenState->Array GenState->Prop}{n:Nat}{Pv:Nat->Value->Prop}{St:Nat->Shared->Prop}(W:WalksS P w A.in1 I fp wr G n Pv St)(S:Addr)(hS:S∉fp)(xs:List Str)(hn:xs.length=n)
  (hv:∀i v,Pv i v->∃t,v=.str (xs.getD i "") t)(hb:n+1<scanBound) :
  ∀(k i:Nat) (z:Shared),n-i=k->i<=n->St i z->z.heap.SetOf (strKind P w) S (fun q=>(dd (xs.take i)).any (·==q)) (dd (xs.take i)).length ->
   (∀z',Moved (S::wr) G z z'->z'.heap.SetOf (strKind P w) S (fun q=>(dd xs).any (·==q)) (dd xs).length->R (.ok (.ret .none)) z') ->
   codeAny (model P w) A (.builtin "set.update.loop" ⟨[.ref S,.ref I],[]⟩) R z:=by
 have zns:S∉wr:=fun h=>hS (W.sub _ h)
 have more:∀b∈wr,b∈S::wr:=fun b h=>ztn _ h
 intro k
 induction k with
 | zero =>
  intro i z hk hi st zko fin
  have ei:i=n:=by omega
  subst ei
  refine codeAny_builtin PyProof.Rows.F.entry_set_update_loop ?_
  rw[Around.under_plainId PyProof.Rows.F.plain_set_update_loop _]
  show wpAny _ A.in1 (pyNext (.ref I)>>=_) _ _ z
  refine wpAny_bind (W.done z _ _ st fun z' mv=>?_)
  show wpAny _ A.in1 (ret Value.none) _ _ z'
  refine wpAny_pure (fin z' (mv.mono more) ?_)
  rw[<-hn,ztF] at zko
  obtain⟨o,es,ep,t,ho,more'⟩:=zko
  exact⟨o,es,ep,t,mv.heap S _ zns ho,more'⟩
 | succ k ih =>
  intro i z hk hi st zko fin
  have il:i<n:=by omega
  refine codeAny_builtin PyProof.Rows.F.entry_set_update_loop ?_
  rw[Around.under_plainId PyProof.Rows.F.plain_set_update_loop _]
  show wpAny _ A.in1 (pyNext (.ref I)>>=_) _ _ z
  refine wpAny_bind (W.item i z _ _ il st fun v z' pv st' mv=>?_)
  obtain⟨t,rfl⟩:=hv i v pv
  have hset':z'.heap.SetOf (strKind P w) S (fun q=>(dd (xs.take i)).any (·==q)) (dd (xs.take i)).length:=by
   obtain⟨o,es,ep,tb,ho,more'⟩:=zko
   exact⟨o,es,ep,tb,mv.heap S _ zns ho,more'⟩
  show wpAny _ A.in1 (holding [Value.str (xs.getD i "") t] (setAdd S (.str (xs.getD i "") t))>>=_) _ _ z'
  refine wpAny_bind (wpAny_holding ?_)
  unfold setAdd
  refine wpAny_holding ?_
  refine wpAny_bind ((strKind P w).pyHash (k:=xs.getD i "") (strKind_is _ _ _ _) ?_)
  have hroom:(dd (xs.take i)).length+1<scanBound:=by
   have:=znr (xs.take i)
   rw[ztA] at this
   omega
  have et:xs.take (i+1)=xs.take i++[xs.getD i ""]:=by
   rw[List.take_succ,ztp,ztd (by omega)]
   rfl
  refine wpAny_setAddHashed_of (knd:=strKind P w) (s:={ z' with toks:=z'.toks+1 }) (strKind_is _ _ _ _) rfl hset' hroom fun h' sb s2=>?_
  have znt:h'.SetOf (strKind P w) S (fun q=>(dd (xs.take (i+1))).any (·==q)) (dd (xs.take (i+1))).length :=
   SetOf_congr s2 (fun q=>by rw[et,zgX,zae]) (by rw[et,zgX,Va])
  refine wpAny_pure ⟨plainId_quiet PyProof.Rows.F.plain_set_update_loop _,ih (i+1) _ (by omega) il (W.frame _ z' _ _ st' (Nat.le_succ _) fun b hb' o e=>?_) znt fun z'' mv2 s3=>?_⟩
  ·rw[sb.2 b (fun h:b=S=>hS (by rw[<-h];exact hb'))];exact e
  ·refine fin z'' (Moved.trans W.gtrans ((mv.mono more).then_heap (Nat.le_succ _) fun b o hb' e=>?_) mv2) s3
   rw[sb.2 b (fun h:b=S=>hb' (by rw[h];exact ztw))];exact e
theorem zkp {xs:List Str}:∀{us:List Value},Vals (xs.map V.str) us->∀(i:Nat) (v:Value),us[i]?=some v->∃t,v=.str (xs.getD i "") t:=by
 intro us r i v h
 have hl:=r.length
 rw[ztc] at hl
 have hi:i<xs.length:=by have:=(ztf.mp h).1;omega
 obtain⟨u,hu,t,e⟩:=r.get (i:=i) (x:=.str xs[i]) (by rw[zte,ztd hi];rfl)
 rw[h] at hu
 cases hu
 refine⟨t,?_⟩
 rw[e,ztp,ztd hi]
 rfl
set_option maxHeartbeats 8000000 in
theorem ziN {l:Addr}{us:List Value}{xs:List Str}{Q:Value->Shared->Prop}(hh:A.handled=none)(hl:s.heap.IsList l us.toArray)(r:Vals (xs.map V.str) us)(hb:xs.length+1<scanBound)
  (h:∀(h':Heap) (tk:Nat),h'.SetOf (strKind P w) s.heap.objs.size (fun q=>(dd xs).any (·==q)) (dd xs).length->(∀b o,s.heap.get? b=some o->h'.get? b=some o)->Q (.ref s.heap.objs.size) { s with heap:=h',toks:=tk }) :
  wpAny (model P w) A (call (.type "set") [.ref l]) Q E s:=by
 have hlen:xs.length=us.toArray.size:=by have:=r.length;rw[ztc] at this;simpa using this
 obtain⟨cc,tl,hmro⟩:=F.called_set.mro
 have made:=F.called_set.made
 have sub:=F.called_set.sub
 refine wpAny_call (codeAny_of_tree ?_)
 show wpAny _ _ (callAny (.type "set") _) _ _ _
 refine wpAny_pure ⟨Code.quiet_builtin _ (by decide +kernel),codeAny_builtin F.entry_type_call ?_⟩
 rw[Around.under_plain (weight_type_call_type "set" [.ref l] []) rfl]
 have a1:=F.called_set.notType
 have a2:=F.called_set.canCreate
 have a3:=F.typeCall_set_1 (.ref l)
 repeat (any_goals (first | assumption | wp_step))
 refine codeAny_mono (code_set_new_1 (.ref l) (E:=E) (Q₁:=fun ob z=>∃led:Bool,ob=.ref s.heap.objs.size/\z={ s with heap:=s.heap.push { cls:=.type "set", dict:=none,data:=.set #[] 0 (.fresh 0 0 led) } }) fun led=>⟨led,rfl,rfl⟩) fun res z hres=>?_
 cases res with
 | error e=>exact hres
 | ok fl =>
  cases fl with
  | ret ob =>
   obtain⟨led,rfl,rfl⟩:=hres
   have gS:(s.heap.push (zaK led)).get? s.heap.objs.size=some (zaK led):=ztx _ rfl
   have tS:Shared.TypeIs { s with heap:=s.heap.push (zaK led) } (.ref s.heap.objs.size) "set" := ⟨_,gS,rfl⟩
   have b1:=F.called_set.init.lookup
   have b2:=F.called_set.init.bind (.ref s.heap.objs.size)
   repeat (any_goals (first | assumption | wp_step))
   refine codeAny_mono (codeAny_call_builtin (R:=wants (fun v z=>v=.none/\∃h' tk,z={ s with heap:=h',toks:=tk }/\h'.SetOf (strKind P w) s.heap.objs.size (fun q=>(dd xs).any (·==q)) (dd xs).length/\(∀b o,s.heap.get? b=some o->h'.get? b=some o)) E)
    F.called_set.init.plain F.entry_set_init (check_set_init_1 tS ?_)) fun res2 z2 ziO=>?_
   ·obtain⟨ol,gl,cl,nl,dl⟩:=hl
    obtain⟨ocls,odict,odata,oslots⟩:=ol
    have cl':ocls=.type "list" := cl
    have dl':odata=.seq us.toArray nl:=dl
    subst cl' dl'
    have gl':(s.heap.push (zaK led)).get? l=some { cls:=.type "list", dict:=odict,data:=.seq us.toArray nl,slots:=oslots }:=zti _ gl
    have c1:=F.sub_list_set
    have c2:=F.sub_list_frozenset
    have c3:(Value.type "list" == Value.type "dict")=false:=by decide
    have isl:(s.heap.push (zaK led)).IsList l us.toArray:=⟨_,gl',rfl,nl,rfl⟩
    unfold Builtin.«set.__init__» noKeywords Builtin.Frozenset.updateFrom
    generalize hit:pyIter=itf
    wp_walk
    subst hit
    refine wpAny_pyIter_list isl ?_
    refine wpAny_bind (wpAny_runValue ?_)
    have ltl:l<s.heap.objs.size:=ztj gl
    have hd3:A.in1.in1.in1.handled=none:=by simp[hh]
    have sz1:(s.heap.push (zaK led)).objs.size=s.heap.objs.size+1:=Heap.size_push ..
    have nel:l≠(s.heap.push (zaK led)).objs.size:=by rw[sz1];exact ztr (Nat.lt_succ_of_lt ltl)
    have nin:s.heap.objs.size∉[(s.heap.push (zaK led)).objs.size,l]:=by
     rw[sz1]
     simp only[List.mem_cons,ztD,or_false,not_or]
     exact⟨ztr (Nat.lt_succ_self _),Nat.ne_of_gt ltl⟩
    refine ziM ((Walks.list hd3 _ l nel us.toArray).toS) s.heap.objs.size nin xs hlen (fun i v hv=>zkp r i v (by simpa using hv)) (by rw[<-hlen];exact hb) (us.toArray.size-0) 0 _ (by omega) (ztz _)
     ⟨⟨_,ztx _ rfl,rfl,rfl⟩,isl.push _⟩ ?s0 ?fin
    case s0 =>
     have gg:((s.heap.push (zaK led)).push { cls:=.type "list_iterator", data:=.fields #[.ref l,.int 0 0] }).get? s.heap.objs.size=some (zaK led):=zti _ gS
     exact SetOf_congr ((setObjOf_fresh (knd:=strKind P w) led).setOf gg (by unfold scanBound;omega)) (fun _=>rfl) rfl
    case fin =>
     intro z mv sz
     obtain⟨h',g',d',tk',os'⟩:=z
     have e1:g'=s.gens:=mv.gens
     have e2:d'=s.drawn:=mv.drawn
     have e3:os'=s.os:=mv.os
     subst e1 e2 e3
     show wpAny _ _ _ _ _ _
     refine wpAny_pure ?_
     show wpAny _ _ (ret Value.none) _ _ _
     refine wpAny_pure ⟨rfl,h',tk',rfl,sz,fun b o e=>?_⟩
     have lb:=ztj e
     have n1:b≠s.heap.objs.size:=ztr lb
     have n2:b≠(s.heap.push (zaK led)).objs.size:=by rw[sz1];exact ztr (Nat.lt_succ_of_lt lb)
     exact mv.heap b o (by simp only[List.mem_cons,ztD,or_false,not_or];exact⟨n1,n2⟩) (zti _ (zti _ e))
   ·cases res2 with
    | error e=>exact ziO
    | ok fl2 =>
     cases fl2 with
     | ret v =>
      obtain⟨rfl,h',tk,rfl,sS,kk⟩:=ziO
      repeat (any_goals (first | assumption | wp_step))
      exact h _ _ sS kk
     | _=>exact ziO.elim
  | _=>exact hres.elim
end
section
variable {X:Cx}
def zkq (P:Program)(w:World)(a:Addr)(n:Nat):HO:=.ext fun h=>∃S,h.SetOf (strKind P w) a S n
theorem ziP (hc:X.calm=true):ZK X (.type "set") (fun xs H Q=>∃(p:Addr) (ts:List Str),xs=[.ref p]/\zP X.K H p (ts.map V.str)/\ts.length<=100/\∀q,H q=none->Q (.ref q) (upd H q (zkq X.prog X.w q (dd ts).length))):=by
 intro pins s σ H xs us Q I r h
 obtain⟨p,ts,rfl,hq,h100,q⟩:=h
 obtain⟨u,rfl,rx⟩:=vals1 r
 cases rx
 obtain⟨its,r',pl,hz⟩:=I.list hq
 refine ziN (I.ok.hd hc) pl.isList r' (Nat.lt_of_le_of_lt (Nat.add_le_add_right h100 1) (by decide)) fun h' tk hS hk=>?_
 refine⟨.ref s.heap.objs.size,_,I.laid hk (zts _) (o:=zkq X.prog X.w s.heap.objs.size (dd ts).length) ?_,rfl,q _ (I.hok.fresh (zts _))⟩
 refine⟨⟨_,hS⟩,?_,?_⟩
 ·obtain⟨o,es,ep,t,ho,_⟩:=hS
  exact⟨o,ho⟩
 ·rintro h1 h2 ⟨S,o,es,ep,t,ho,rest⟩ k
  exact⟨S,o,es,ep,t,k o ho,rest⟩
theorem call_len_set':ZK X (.builtin "len") (fun xs H Q=>∃(p:Addr) (n:Nat),xs=[.ref p]/\H p=some (zkq X.prog X.w p n)/\Q (.int n) H):=by
 intro pins s σ H xs us Q I r h
 obtain⟨p,n,rfl,hp,q⟩:=h
 obtain⟨u,rfl,rx⟩:=vals1 r
 cases rx
 obtain⟨⟨S,o,es,ep,t,ho,hex,hd,_,_,hb,hf,hn⟩,_⟩:=I.hok p _ hp
 have h63:(es.size:Int)<2^63:=by
  have h1:scanBound<2^63:=by decide
  omega
 refine call_len_set ho hex hd hf h63 ⟨.int n,H,I.tok _,⟨s.toks+1,?_⟩,q⟩
 rw[hn]
def zkr (K:Frag)(P:Program)(w:World)(a:Addr)(kvs:List (Str×Value)):Prop:=(a==sysModules)=false/\∃o,K.lookup a=some o/\o.IsDictOf (strKind P w) kvs
theorem zc3 {a:Addr}{kvs:List (Str×Value)}(hd:zkr X.K X.prog X.w a kvs):IxR X (fun x y H Q=>∃k u v,x=.ref a/\y=.str k/\valueAt kvs k=some u/\RelV v u/\Q v H):=by
 intro value slice pins s σ H x y v u Q I rx ry h hs
 obtain⟨k,z,vv,rfl,rfl,hv,rv,q⟩:=h
 cases rx
 obtain⟨t,rfl⟩:=ry
 obtain⟨_,o,hk,hdd⟩:=hd
 have D:s.heap.DictOf (strKind X.prog X.w) a kvs:=Heap.dictOf_iff.mpr ⟨o,I.LQ a o hk,hdd⟩
 exact tail_any D.typeIs slot_dict_getitem.lookup (wpAny_getItem_of (strKind_is _ _ k t) D.mapOf hv ⟨vv,H,I.tok _,rv,q⟩) hs
theorem zbJ {a:Addr}{kvs:List (Str×Value)}(hd:zkr X.K X.prog X.w a kvs):Uu X (compareOp .NotIn) (fun x y H Q=>∃k,x=.str k/\y=.ref a/\Q (.bl (!(valueAt kvs k).isSome)) H):=by
 intro pins s σ H x y v u Q I rx ry h
 obtain⟨k,rfl,rfl,q⟩:=h
 cases ry
 obtain⟨t,rfl⟩:=rx
 obtain⟨hs,o,hk,hdd⟩:=hd
 have D:s.heap.DictOf (strKind X.prog X.w) a kvs:=Heap.dictOf_iff.mpr ⟨o,I.LQ a o hk,hdd⟩
 exact wpAny_notIn_of (strKind_is _ _ k t) hs D.mapOf ⟨.bl _,H,I.tok _,rfl,q⟩
theorem Inv.zc4 {pins:List (Addr×Obj)}{σ:St}{H:Hp}{s:Shared}{h':Heap}{t':Nat}{fp:List Addr}(I:Inv X pins σ H s)(k:∀b o,b∉fp->s.heap.get? b=some o->h'.get? b=some o)(ex:∀b∈fp,∃o,h'.get? b=some o)(hf:∀b∈fp,zbD X pins H b) :
  Inv X pins σ H { s with heap:=h',toks:=t' }:=by
 have nit:∀b u,H b=some u->b∉fp:=fun b u e z=>by rw[(hf b z).1] at e;cases e
 refine I.step (g':=s.gens) (d':=s.drawn) (ch:=fp) (fun b hb=>⟨(hf b hb).2.2.2.1,(hf b hb).2.1,(hf b hb).2.2.2.2.1,(hf b hb).2.2.2.2.2⟩) (fun b o _ _ hc e _=>k b o hc e) (fun b o _ _ hc e _=>⟨o.slots,k b o hc e⟩) (fun _ _ _ _ n=>n)
  (fun b o hc e=>⟨o,k b o hc e⟩) (fun _ _ e=>e) (fun _ _ _ e=>e) (fun b ps e=>⟨#[],by rw[e];simp⟩) (fun m hm=>?_) (fun b u e=>?_) I.bare
 ·obtain⟨o,es,ep,ho,r⟩:=hm
  exact⟨o,es,ep,k _ o (fun z=>(hf _ z).2.1 rfl) ho,r⟩
 ·refine(I.hok b u e).stay (fun c v hc q=>k c v ?_ q) (fun _ q=>q) fun _ _ q=>q
  rcases hc with z | z
  ·rw[z];exact nit b u e
  ·exact nit c _ z
def Ite (K:Frag)(a:Addr):It :=
 ⟨fun i H=>∃xs x,zP K H a xs/\xs[i]?=some x,fun i H x H'=>∃p y,(∀xs,zP K H a xs->xs[i]?=some y)/\x=.ref p/\H p=none/\H'=upd H p (.tup [.int (i:Nat),y]),fun i H=>∃xs,zP K H a xs/\xs.length<=i⟩
theorem zhR {P:Program}{w:World}{K:Frag}{els:List Expr}{x1}{pt:Pos}(a e it:Addr)(hne:e≠it):Turn P w K (.Tuple els x1 pt) (Ite K a) [e,it] e (fun i h=>(∃old,IsEnum h e it (i:Nat) old)/\h.IsListIter it a i) where
 mem:=by simp
 obj:=fun i h st b hb=>by
  rcases List.mem_cons.mp hb with z | z
  ·obtain⟨⟨old,q⟩,_⟩:=st
   rw[z]
   exact⟨_,q,fun v hv=>by cases hv⟩
  ·have z':b=it:=by simpa using z
   obtain⟨_,o,q,c,d⟩:=st
   rw[z']
   exact⟨o,q,fun v hv=>by rw[d] at hv;cases hv⟩
 keep:=fun i h h' st k=>by
  obtain⟨⟨old,q⟩,q2⟩:=st
  exact⟨⟨old,k e (by simp) _ q⟩,q2.at fun o z=>k it (by simp) o z⟩
 item:=by
  intro X hP hw hK hc i pins s σ H E I hf st hg
  subst hP hw hK
  obtain⟨xs,x,hq,hx⟩:=hg
  obtain⟨⟨old,he⟩,hit⟩:=st
  obtain⟨its,rv,pl,hz⟩:=I.list hq
  obtain⟨u,hu,ru⟩:=rv.get hx
  refine wpAny_pyNext_enum_item he hit pl.isList (x:=u) (by simpa using hu) hne fun h1 out hit1 tup sz k1=>?_
  refine⟨.ref s.heap.objs.size,rfl,wpAny_letOwnedTupleGo_enum out fun h2 he2 sb=>?_⟩
  have lte:=ztj he
  have k2:∀b o,b∉[e,it]->s.heap.get? b=some o->h2.get? b=some o:=fun b o hb q=>by
   have hb':b≠e/\b≠it:=by simpa using hb
   exact(sb.2 b hb'.1).trans (k1 b o hb'.1 hb'.2 q)
  have hit2:h2.IsListIter it a (i+1):=hit1.at fun o z=>(sb.2 it (Ne.symm hne)).trans z
  have J1:Inv X pins σ H { s with heap:=h2,toks:=s.toks+1 }:=I.zc4 (fp:=[e,it]) k2 (fun b hb=>by
   rcases List.mem_cons.mp hb with z | z
   ·rw[z];exact⟨_,he2⟩
   ·have z':b=it:=by simpa using z
    obtain⟨o,q,_⟩:=hit2
    rw[z'];exact⟨o,q⟩) hf
  have ziQ:h2.get? s.heap.objs.size=some { cls:=.type "tuple", data:=.seq #[.int i s.toks,u] }:=(sb.2 _ (Nat.ne_of_gt lte)).trans tup
  have ltc:∀y c,X.env.cells.lookup y=some c->c≠s.heap.objs.size:=fun y c q=>by
   obtain⟨v,o,z,_⟩:=I.cell y c q
   exact ztr (ztj z)
  have ltp:∀p∈X.pn++pins,p.1≠s.heap.objs.size:=fun p hp=>ztr (ztj (I.pin p hp).1)
  have J2:=J1.track (a:=s.heap.objs.size) (o:=.tup [.int (i:Nat),x]) I.fresh (Ne.symm (ztr I.lt)) I.sz ltc ltp ⟨by show 2<=sizeLine;decide,[.int i s.toks,u],.cons ⟨_,rfl⟩ (.cons ru .nil),⟨_,ziQ,rfl,_,rfl⟩⟩
  refine⟨.ref s.heap.objs.size,_,J2,rfl,⟨_,x,fun ys hy=>by rw[I.Wf hy hq];exact hx,rfl,I.fresh,rfl⟩,⟨⟨u,?_⟩,hit2⟩,fun b hb=>?_⟩
  ·have:=he2
   simpa using this
  ·have lb:b<s.heap.objs.size:=by
    rcases List.mem_cons.mp hb with z | z
    ·rw[z];exact lte
    ·have z':b=it:=by simpa using z
     obtain⟨o,q,_⟩:=hit
     rw[z'];exact ztj q
   rw[zG (ztr lb)]
   exact(hf b hb).1
 done:=by
  intro X hP hw hK hc i pins s σ H E I hf st hg
  subst hP hw hK
  obtain⟨xs,hq,hx⟩:=hg
  obtain⟨⟨old,he⟩,hit⟩:=st
  obtain⟨its,rv,pl,hz⟩:=I.list hq
  have hl:=rv.length
  obtain⟨f0,f1,f2,f3,f4,f5⟩:=hf it (by simp)
  exact wpAny_pyNext_enum_end (I.ok.hd hc) he hit pl.isList (by simp;omega) fun h' eb=>⟨rfl,I.turned (t':=s.toks) (fun b o hb q=>eb b o hb q) f0 f1 f3 f4 f5⟩
 self:=fun _ _ _ _ _ st h=>let ⟨⟨_,he⟩,_⟩:=st;wpAny_pyIter_enum he h
def znv (K:Frag)(ta:TA):TI:=fun σ H R=>ta σ H fun vs H1=>∃a xs,vs=[.ref a]/\zP K H1 a xs/\R (Ite K a) H1
theorem boot_enumerate:bootBuiltins "enumerate"=some (.type "enumerate"):=by decide +kernel
theorem zks {l:Expr}{ta:TA}{p pos:Pos}{els:List Expr}{x1}{pt:Pos}(hg:Gl X "enumerate")(hm:X.mg "enumerate"=none)(ha:PA X [l] ta)(hs:starEach [l] X.env=[(false,eval l X.env)]:=by rfl) :
  PI X (.Tuple els x1 pt) (.Call (.Name "enumerate" p) [l] [] pos) (znv X.K ta):=by
 intro pins s σ H R I h
 refine Call_ (Wd I hg hm boot_enumerate (PyProof.Rows.callWith_type1 (wD (ha pos pins s σ H _ I h) fun us s1 ⟨vs,H1,I1,r1,q1⟩=>?_) hs rfl))
 obtain⟨a,xs,e,hq,q⟩:=q1
 subst e
 obtain⟨u,rfl,ru⟩:=vals1 r1
 cases ru
 obtain⟨its,rv,pl,hz⟩:=I1.list hq
 refine call_enumerate_list pl.isList fun h' he hit hsz hk=>?_
 have J:Inv X pins σ H1 { s1 with heap:=h',toks:=s1.toks }:=I1.kept hk
 refine wpAny_pyIter_enum he ?_
 refine⟨s1.heap.objs.size+1,[s1.heap.objs.size+1,s1.heap.objs.size],_,_,H1,rfl,J,zhR a _ _ (Nat.ne_of_gt (Nat.lt_succ_self _)),⟨⟨_,he⟩,hit⟩,fun b hb=>?_,q⟩
 have gb:s1.heap.objs.size<=b:=by
  rcases List.mem_cons.mp hb with z | z
  ·rw[z];exact Nat.le_succ _
  ·have z':b=s1.heap.objs.size:=by simpa using z
   rw[z'];exact zts _
 exact I1.zee gb (I1.hok.fresh gb)
theorem ziR {K:Frag}{a:Addr}{xs:List V}{g:TG}{tb:TS}{D:Ends}{σ:St}{H:Hp}(Pv:Nat->St->Hp->Prop)(h0:Pv 0 σ H)(hl:∀i σ H,i<=xs.length->Pv i σ H->zP K H a xs)
  (hs:∀i x σ H p,xs[i]?=some x->Pv i σ H->H p=none->g (.ref p) σ (upd H p (.tup [.int (i:Nat),x])) fun σ2 H2=>tb { D with nx:=Pv (i+1),ct:=Pv (i+1),bk:=D.nx } σ2 H2)(hd:∀ σ H,Pv xs.length σ H->D.nx σ H) :
  ∃W:Nat->Nat->St->Hp->Prop,(∃m,W 0 m σ H)/\∀i m σ H,W i m σ H ->
   ((Ite K a).stop i H/\D.nx σ H)\/((Ite K a).go i H/\∃N:St->Hp->Prop,(∀ σ' H',N σ' H'->∃m',m'<m/\W (i+1) m' σ' H')/\∀x H',(Ite K a).Qe i H x H'->g x σ H' fun σ2 H2=>tb { D with nx:=N,ct:=N,bk:=D.nx } σ2 H2):=by
 refine⟨fun i m σ H=>m=xs.length-i/\i<=xs.length/\Pv i σ H,⟨xs.length,by simp,ztz _,h0⟩,?_⟩
 rintro i m σ H ⟨rfl,hi,p⟩
 have q:=hl i σ H hi p
 by_cases hlt:i<xs.length
 ·refine .inr ⟨⟨xs,xs[i],q,by simp[hlt]⟩,Pv (i+1),fun σ' H' p'=>⟨xs.length-(i+1),by omega,rfl,hlt,p'⟩,fun x H' y=>?_⟩
  obtain⟨pp,z,q1,rfl,q3,rfl⟩:=y
  exact hs i z σ H pp (q1 xs q) p q3
 ·have e:i=xs.length:=by omega
  subst e
  exact .inl ⟨⟨xs,q,zts _⟩,hd σ H p⟩
end
theorem zX:bootBuiltins "len"=some (.builtin "len"):=by decide +kernel
theorem Xm:bootBuiltins "all"=some (.builtin "all"):=by decide +kernel
theorem Vs:bootBuiltins "isinstance"=some (.builtin "isinstance"):=by decide +kernel
theorem zc5:bootBuiltins "int"=some (.type "int"):=by decide +kernel
theorem zkt:bootBuiltins "bool"=some (.type "bool"):=by decide +kernel
theorem zc6:bootBuiltins "str"=some (.type "str"):=by decide +kernel
theorem ziS:bootBuiltins "tuple"=some (.type "tuple"):=by decide +kernel
theorem Qj:bootBuiltins "list"=some (.type "list"):=by decide +kernel
theorem zmn:bootBuiltins "set"=some (.type "set"):=by decide +kernel
theorem zfY {v:V}{u:Value}(h:zbC u=some v):RelV v u:=by
 cases u<;>simp only[zbC,Option.some.injEq,reduceCtorEq] at h<;>subst h<;>first | exact rfl | exact⟨_,rfl⟩
theorem Jg:∀{us:List Value} {xs:List V},us.map zbC=xs.map some->Vals xs us
 | [],[],_=>.nil
 | u::us,x::xs,h=>by
  rw[ztB,ztB] at h
  injection h with h1 h2
  exact .cons (zfY h1) (Jg h2)
 | [],_::_,h=>by cases h
 | _::_,[],h=>by cases h
theorem zlw {K:Frag}{H:Hp}{p:Addr}{od:Option Addr}{it:Array Value}{n:Nat}{sl:Array (Option Value)}{xs:List V}(l:K.lookup p=some ⟨.type "tuple", od,.seq it n,sl⟩)(v:it.toList.map zbC=xs.map some)(hz:xs.length<=1000):wY K H p xs:=by
 have r:=Jg v
 refine .inr ⟨_,it,n,l,rfl,rfl,?_,r⟩
 have e:xs.length=it.size:=by have:=r.length;simpa using this
 rw[<-e]
 exact ztv (zO hz)
theorem zmo {P:Program}{w:World}:Pairs (strKind P w) [] []/\∀e∈([]:List DictEntry),∃k,(strKind P w).is k e.key=true/\e.hash=(strKind P w).hash k:=⟨.nil,fun _ h=>nomatch h⟩
theorem zku {P:Program}{w:World}{k:Str}{t:Tok}{v:Value}{es:List DictEntry}{kvs:List (Str×Value)}(h:Pairs (strKind P w) es kvs/\∀e∈es,∃k,(strKind P w).is k e.key=true/\e.hash=(strKind P w).hash k) :
  Pairs (strKind P w) (⟨hashStr w k,.str k t,v⟩::es) ((k,v)::kvs)/\∀e∈(⟨hashStr w k,.str k t,v⟩::es:List DictEntry),∃k,(strKind P w).is k e.key=true/\e.hash=(strKind P w).hash k:=by
 refine⟨.cons (strKind_is _ _ k t) rfl h.1,fun e he=>?_⟩
 rcases List.mem_cons.mp he with z | z
 ·subst z;exact⟨k,strKind_is _ _ k t,rfl⟩
 ·exact h.2 e z
theorem zkv {P:Program}{w:World}{K:Frag}{p:Addr}{es:Array DictEntry}{ep:Nat}{el:List DictEntry}{kvs:List (Str×Value)}(l:K.lookup p=some ⟨.type "dict", none,.dict es ep,#[]⟩)(e:es.toList=el)(s:(p==sysModules)=false)
  (h:Pairs (strKind P w) el kvs/\∀e∈el,∃k,(strKind P w).is k e.key=true/\e.hash=(strKind P w).hash k)(nd:(kvs.map (·.1)).Nodup):zkr K P w p kvs:=by
 subst e
 exact⟨s,_,l,es,ep,⟨rfl,rfl,rfl⟩,rfl,fun x hx=>h.2 x (by simpa using hx),h.1,nd⟩
end L2
namespace xV
open PySem
inductive Sn where
 | c0 (y:Bool)
 | mk (x:Str)
 | nt (s:Sn)
 | b2 (o:Fin 4) (s t:Sn)
 | q1 (o:Bool) (x:Str) (s:Sn)
def w2:Fin 4->Str
 | 0 => "and"
 | 1 => "or"
 | 2 => "either"
 | 3 => "if"
namespace Sn
def word:Sn->Str
 | c0 true => "yes"
 | c0 false => "no"
 | mk _ => "mark"
 | nt _ => "not"
 | b2 o _ _=>w2 o
 | q1 true _ _ => "some"
 | q1 false _ _ => "each"
def letters:Sn->List Str
 | mk x=>[x]
 | q1 _ x _=>[x]
 | _=>[]
def parts:Sn->List Sn
 | nt s=>[s]
 | b2 _ s t=>[s,t]
 | q1 _ _ s=>[s]
 | _=>[]
def count:Sn->Nat
 | nt s=>1+s.count
 | b2 _ s t=>1+(s.count+t.count)
 | q1 _ _ s=>1+s.count
 | _=>1
def depth:Sn->Nat
 | nt s=>1+s.depth
 | b2 _ s t=>1+max s.depth t.depth
 | q1 _ _ s=>1+s.depth
 | _=>1
def PX (os:List Str):Sn->Prop
 | c0 _=>True
 | mk x=>x∈os
 | nt s=>s.PX os
 | b2 _ s t=>s.PX os/\t.PX os
 | q1 _ x s=>x∈os/\s.PX os
def op2:Fin 4->Bool->Bool->Bool
 | 0,a,b=>a&&b
 | 1,a,b=>a||b
 | 2,a,b=>a != b
 | 3,a,b=>!a||b
def val:Sn->(Str->Bool)->Bool
 | c0 y,_=>y
 | mk x,e=>e x
 | nt s,e=>!s.val e
 | b2 o s t,e=>op2 o (s.val e) (t.val e)
 | q1 true x s,e=>s.val (fun y=>if y=x then true else e y)||s.val (fun y=>if y=x then false else e y)
 | q1 false x s,e=>s.val (fun y=>if y=x then true else e y)&&s.val (fun y=>if y=x then false else e y)
theorem val_congr {os:List Str}:∀(s:Sn) {e e':Str->Bool},s.PX os->(∀x∈os,e x=e' x)->s.val e=s.val e'
 | c0 _,_,_,_,_=>rfl
 | mk x,_,_,h,q=>q x h
 | nt s,_,_,h,q=>by unfold val;rw[val_congr s h q]
 | b2 o s t,_,_,h,q=>by unfold val;rw[val_congr s h.1 q,val_congr t h.2 q]
 | q1 o x s,e,e',h,q=>by
  have k:∀b:Bool,s.val (fun y=>if y=x then b else e y)=s.val (fun y=>if y=x then b else e' y):=fun b=>val_congr s h.2 fun y hy=>by
   by_cases hx:y=x
   ·rw[if_pos hx,if_pos hx]
   ·rw[if_neg hx,if_neg hx,q y hy]
  cases o<;>(unfold val;rw[k,k])
theorem Qk:∀s:Sn,1<=s.depth
 | c0 _=>zts _
 | mk _=>zts _
 | nt _=>by unfold depth;omega
 | b2 _ _ _=>by unfold depth;omega
 | q1 _ _ _=>by unfold depth;omega
theorem Jh:∀s:Sn,s.count=1+(s.parts.map count).sum
 | c0 _=>rfl
 | mk _=>rfl
 | nt _=>by simp[count,parts]
 | b2 _ _ _=>by simp[count,parts]
 | q1 _ _ _=>by simp[count,parts]
theorem Sx:∀(s:Sn),∀t∈s.parts,t.depth+1<=s.depth
 | c0 _,t,h=>by simp[parts] at h
 | mk _,t,h=>by simp[parts] at h
 | nt s,t,h=>by simp[parts] at h;subst h;show t.depth+1<=1+t.depth;omega
 | b2 _ s u,t,h=>by
  simp[parts] at h
  rcases h with h | h
  ·subst h;show t.depth+1<=1+max t.depth u.depth;omega
  ·subst h;show t.depth+1<=1+max s.depth t.depth;omega
 | q1 _ _ s,t,h=>by simp[parts] at h;subst h;show t.depth+1<=1+t.depth;omega
theorem zcj {os:List Str}:∀(s:Sn),s.PX os->∀t∈s.parts,t.PX os
 | c0 _,_,t,h=>by simp[parts] at h
 | mk _,_,t,h=>by simp[parts] at h
 | nt s,q,t,h=>by simp[parts] at h;subst h;exact q
 | b2 _ s u,q,t,h=>by
  simp[parts] at h
  rcases h with h | h<;>subst h
  ·exact q.1
  ·exact q.2
 | q1 _ _ s,q,t,h=>by simp[parts] at h;subst h;exact q.2
theorem zeo {os:List Str}:∀(s:Sn),s.PX os->∀x∈s.letters,x∈os
 | c0 _,_,t,h=>by simp[letters] at h
 | mk _,q,t,h=>by simp[letters] at h;subst h;exact q
 | nt s,q,t,h=>by simp[letters] at h
 | b2 _ s u,q,t,h=>by simp[letters] at h
 | q1 _ _ s,q,t,h=>by simp[letters] at h;subst h;exact q.1
end Sn
theorem vI (b p:Nat):(b+2^p).testBit p=!b.testBit p:=by rw[Nat.add_comm];exact Nat.testBit_two_pow_add_eq b p
theorem Ql {b p j:Nat}(h:j<p):(b+2^p).testBit j=b.testBit j:=by rw[Nat.add_comm];exact Nat.testBit_two_pow_add_gt h b
theorem ziT {b p:Nat}(h:b.testBit p=false):b%2^(p+1)<2^p:=by
 have e:b%2^(p+1)=b%2^p+2^p*(b / 2^p%2):=by
  rw[Nat.pow_succ];exact Nat.mod_mul
 have z:b / 2^p%2=0:=by
  rw[Nat.testBit_eq_decide_div_mod_eq] at h
  have:=of_decide_eq_false h
  omega
 rw[e,z,Nat.mul_zero,Nat.add_zero]
 exact Nat.mod_lt b (Nat.two_pow_pos p)
theorem ziU (x i j:Nat):x.testBit (i+j)=(x / 2^i).testBit j:=by
 rw[Nat.testBit_div_two_pow,Nat.add_comm]
theorem zck {b p j:Nat}(h:p<j)(h0:b.testBit p=false):(b+2^p).testBit j=b.testBit j:=by
 obtain⟨k,rfl⟩:∃k,j=(p+1)+k:=⟨j-(p+1),by omega⟩
 rw[ziU,ziU]
 have hm:=ziT h0
 have e:(b+2^p) / 2^(p+1)=b / 2^(p+1):=by
  have hp:2^(p+1)=2^p+2^p:=by rw[Nat.pow_succ];omega
  have d:=Nat.div_add_mod b (2^(p+1))
  have pos:=Nat.two_pow_pos (p+1)
  rw[Nat.div_eq_iff pos]
  have c:b / 2^(p+1)*2^(p+1)=2^(p+1)*(b / 2^(p+1)):=Nat.mul_comm _ _
  rw[c]
  omega
 rw[e]
def zQ (b p:Nat)(v:Bool):Nat:=if b.testBit p=v then b else if v then b+2^p else b-2^p
theorem zcl {b p:Nat}(h:b.testBit p=true):2^p<=b:=Nat.ge_two_pow_of_testBit h
theorem zU (b p j:Nat)(v:Bool):(zQ b p v).testBit j=if j=p then v else b.testBit j:=by
 unfold zQ
 by_cases h:b.testBit p=v
 ·rw[if_pos h]
  by_cases hj:j=p
  ·rw[if_pos hj,hj,h]
  ·rw[if_neg hj]
 ·rw[if_neg h]
  cases v with
  | true =>
   have h0:b.testBit p=false:=by simpa using h
   rw[if_pos rfl]
   by_cases hj:j=p
   ·subst hj;rw[if_pos rfl,vI,h0];rfl
   ·rw[if_neg hj]
    rcases Nat.lt_or_gt_of_ne hj with q | q
    ·exact Ql q
    ·exact zck q h0
  | false =>
   have h1:b.testBit p=true:=by simpa using h
   rw[if_neg ztg]
   have ge:=zcl h1
   obtain⟨c,hc⟩:∃c,b=c+2^p:=⟨b-2^p,by omega⟩
   have h0:c.testBit p=false:=by
    rw[hc,vI] at h1
    simpa using h1
   have e:b-2^p=c:=by omega
   rw[e,hc]
   by_cases hj:j=p
   ·subst hj;rw[if_pos rfl,h0]
   ·rw[if_neg hj]
    rcases Nat.lt_or_gt_of_ne hj with q | q
    ·exact(Ql q).symm
    ·exact(zck q h0).symm
theorem zW {b p n:Nat}{v:Bool}(hb:b<2^n)(hp:p<n):zQ b p v<2^n:=by
 refine Nat.lt_pow_two_of_testBit _ fun i hi=>?_
 rw[zU,if_neg (by omega)]
 exact Nat.testBit_lt_two_pow (ztl hb (ztI (by decide) hi))
def z9 (n:Nat)(N:Nat)(f:Nat->Bool):Prop:=∀b,N.testBit b=(decide (b<2^n)&&f b)
theorem Uy (n:Nat):z9 n (2^2^n-1) (fun _=>true):=fun b=>by
 rw[Nat.testBit_two_pow_sub_one,Bool.and_true]
theorem ZP (n:Nat):z9 n 0 (fun _=>false):=fun b=>by simp
theorem Uz {n N M:Nat}{f g:Nat->Bool}(h:z9 n N f)(k:z9 n M g):z9 n (N ^^^ M) (fun b=>f b != g b):=fun b=>by
 rw[Nat.testBit_xor,h b,k b]
 show _=(decide (b<2^n)&&(f b != g b))
 cases decide (b<2^n)<;>cases f b<;>cases g b<;>rfl
theorem Zf {n N M:Nat}{f g:Nat->Bool}(h:z9 n N f)(k:z9 n M g):z9 n (N&&&M) (fun b=>f b&&g b):=fun b=>by
 rw[Nat.testBit_and,h b,k b]
 show _=(decide (b<2^n)&&(f b&&g b))
 cases decide (b<2^n)<;>cases f b<;>cases g b<;>rfl
theorem Sy {n N M:Nat}{f g:Nat->Bool}(h:z9 n N f)(k:z9 n M g):z9 n (N|||M) (fun b=>f b||g b):=fun b=>by
 rw[Nat.testBit_or,h b,k b]
 show _=(decide (b<2^n)&&(f b||g b))
 cases decide (b<2^n)<;>cases f b<;>cases g b<;>rfl
theorem yR {n N:Nat}{f g:Nat->Bool}(h:z9 n N f)(e:∀b,b<2^n->f b=g b):z9 n N g:=fun b=>by
 rw[h b]
 by_cases hb:b<2^n
 ·rw[e b hb]
 ·rw[decide_eq_false hb];rfl
theorem ziV {n N:Nat}{f:Nat->Bool}(h:z9 n N f):N<2^2^n:=Nat.lt_pow_two_of_testBit _ fun i hi=>by
 rw[h i,decide_eq_false (by omega)];rfl
theorem zhS (p:Nat):z9 (p+1) ((2^2^p-1)*2^2^p) (fun b=>b.testBit p):=fun b=>by
 rw[Nat.testBit_mul_two_pow,Nat.testBit_two_pow_sub_one]
 show _=(decide (b<2^(p+1))&&b.testBit p)
 have hp:2^(p+1)=2^p+2^p:=by rw[Nat.pow_succ];omega
 by_cases h1:2^p<=b
 ·by_cases h2:b<2^(p+1)
  ·have e:b.testBit p=true:=by
    obtain⟨c,rfl⟩:∃c,b=c+2^p:=⟨b-2^p,by omega⟩
    rw[vI,Nat.testBit_lt_two_pow (by omega)]
    rfl
   rw[e]
   simp[h1,h2]
   omega
  ·simp[h2]
   intro _
   omega
 ·have e:b.testBit p=false:=Nat.testBit_lt_two_pow (by omega)
  rw[e]
  simp[h1]
theorem zfZ {p m N:Nat}(hp:p<m)(h:z9 m N (fun b=>b.testBit p)):z9 (m+1) (N|||N*2^2^m) (fun b=>b.testBit p):=fun b=>by
 rw[Nat.testBit_or,Nat.testBit_mul_two_pow,h b,h (b-2^m)]
 show(_||(_&&(_&&(b-2^m).testBit p)))=(decide (b<2^(m+1))&&b.testBit p)
 have hm:2^(m+1)=2^m+2^m:=by rw[Nat.pow_succ];omega
 by_cases h1:b<2^m
 ·have h2:b<2^(m+1):=by omega
  have h3:¬ 2^m<=b:=by omega
  simp[h1,h2,h3]
 ·have h3:2^m<=b:=by omega
  have e:(b-2^m).testBit p=b.testBit p:=by
   obtain⟨c,rfl⟩:∃c,b=c+2^m:=⟨b-2^m,by omega⟩
   rw[Ql hp,Nat.add_sub_cancel]
  rw[e]
  by_cases h2:b<2^(m+1)
  ·have h4:b-2^m<2^m:=by omega
   simp[h1,h2,h3,h4]
  ·have h4:¬b-2^m<2^m:=by omega
   simp[h1,h2,h3,h4]
theorem ziW {n p N R:Nat}{f:Nat->Bool}(hp:p<n)(h:z9 n N f)(r:z9 n R (fun b=>b.testBit p)) :
  z9 n ((N&&&R) / 2^2^p|||(N ^^^ (N&&&R))*2^2^p) (fun b=>f (zQ b p (!b.testBit p))):=fun b=>by
 have o:=Zf h r
 have z:=Uz h o
 have pp:=Nat.two_pow_pos p
 rw[Nat.testBit_or,Nat.testBit_mul_two_pow,Nat.testBit_div_two_pow,o,z]
 dsimp only
 by_cases hb:b<2^n
 ·cases hbit:b.testBit p with
  | false =>
   have e:zQ b p (!false)=b+2^p:=by
    unfold zQ
    rw[hbit,if_neg (by decide),if_pos (by decide)]
   have lt:b+2^p<2^n:=by rw[<-e];exact zW hb hp
   rw[e,vI,hbit]
   by_cases h1:2^p<=b
   ·have e2:(b-2^p).testBit p=true:=by
     obtain⟨c,rfl⟩:∃c,b=c+2^p:=⟨b-2^p,by omega⟩
     rw[vI] at hbit
     rw[Nat.add_sub_cancel]
     simpa using hbit
    rw[e2]
    have h4:b-2^p<2^n:=by omega
    simp[hb,lt,h1,h4]
   ·simp[hb,lt,h1]
  | true =>
   have ge:=zcl hbit
   have e:zQ b p (!true)=b-2^p:=by
    unfold zQ
    rw[hbit,if_neg (by decide),if_neg (by decide)]
   have e2:(b-2^p).testBit p=false:=by
    obtain⟨c,rfl⟩:∃c,b=c+2^p:=⟨b-2^p,by omega⟩
    rw[vI] at hbit
    rw[Nat.add_sub_cancel]
    simpa using hbit
   rw[e,vI,hbit,e2]
   have h4:b-2^p<2^n:=by omega
   simp[hb,ge,h4]
 ·have h3:¬b+2^p<2^n:=by omega
  have h5:(decide (2^p<=b)&&(decide (b-2^p<2^n)&&(f (b-2^p) != (f (b-2^p)&&(b-2^p).testBit p))))=false:=by
   by_cases h1:2^p<=b
   ·by_cases h4:b-2^p<2^n
    ·
     have e:(b-2^p).testBit p=true:=by
      cases q:(b-2^p).testBit p with
      | true=>rfl
      | false =>
       exfalso
       have l:=zW (v:=true) h4 hp
       unfold zQ at l
       rw[q,if_neg (by decide),if_pos rfl] at l
       omega
     rw[e]
     cases f (b-2^p)<;>simp
    ·simp[h4]
   ·simp[h1]
  rw[h5]
  simp[hb,h3]
theorem QW (a:Nat):a%2=(a.testBit 0).toNat:=by
 rw[Nat.testBit_zero]
 have:=Nat.mod_two_eq_zero_or_one a
 rcases this with h | h<;>rw[h]<;>rfl
theorem zgY:∀(n a b:Nat),a<=n->(a ^^^ b)+2*(a&&&b)=a+b
 | 0,a,b,h=>by
  have:a=0:=by omega
  subst this;simp
 | n+1,a,b,h=>by
  by_cases h0:a=0
  ·subst h0;simp
  ·have ih:=zgY n (a / 2) (b / 2) (by omega)
   have e1:(a ^^^ b) / 2=a / 2 ^^^ b / 2:=Nat.xor_div_two
   have e2:(a&&&b) / 2=a / 2&&&b / 2:=Nat.and_div_two
   have d1:=Nat.div_add_mod (a ^^^ b) 2
   have d2:=Nat.div_add_mod (a&&&b) 2
   have d3:=Nat.div_add_mod a 2
   have d4:=Nat.div_add_mod b 2
   rw[e1] at d1
   rw[e2] at d2
   cases ha:a.testBit 0<;>cases hb:b.testBit 0
   ·have m1:(a ^^^ b)%2=0:=by rw[QW,Nat.testBit_xor,ha,hb];rfl
    have m2:(a&&&b)%2=0:=by rw[QW,Nat.testBit_and,ha,hb];rfl
    have m3:a%2=0:=by rw[QW,ha];rfl
    have m4:b%2=0:=by rw[QW,hb];rfl
    omega
   ·have m1:(a ^^^ b)%2=1:=by rw[QW,Nat.testBit_xor,ha,hb];rfl
    have m2:(a&&&b)%2=0:=by rw[QW,Nat.testBit_and,ha,hb];rfl
    have m3:a%2=0:=by rw[QW,ha];rfl
    have m4:b%2=1:=by rw[QW,hb];rfl
    omega
   ·have m1:(a ^^^ b)%2=1:=by rw[QW,Nat.testBit_xor,ha,hb];rfl
    have m2:(a&&&b)%2=0:=by rw[QW,Nat.testBit_and,ha,hb];rfl
    have m3:a%2=1:=by rw[QW,ha];rfl
    have m4:b%2=0:=by rw[QW,hb];rfl
    omega
   ·have m1:(a ^^^ b)%2=0:=by rw[QW,Nat.testBit_xor,ha,hb];rfl
    have m2:(a&&&b)%2=1:=by rw[QW,Nat.testBit_and,ha,hb];rfl
    have m3:a%2=1:=by rw[QW,ha];rfl
    have m4:b%2=1:=by rw[QW,hb];rfl
    omega
theorem zf0:∀(n a b:Nat),a<=n->(a|||b)+(a&&&b)=a+b
 | 0,a,b,h=>by
  have:a=0:=by omega
  subst this;simp
 | n+1,a,b,h=>by
  by_cases h0:a=0
  ·subst h0;simp
  ·have ih:=zf0 n (a / 2) (b / 2) (by omega)
   have e1:(a|||b) / 2=a / 2|||b / 2:=Nat.or_div_two
   have e2:(a&&&b) / 2=a / 2&&&b / 2:=Nat.and_div_two
   have d1:=Nat.div_add_mod (a|||b) 2
   have d2:=Nat.div_add_mod (a&&&b) 2
   have d3:=Nat.div_add_mod a 2
   have d4:=Nat.div_add_mod b 2
   rw[e1] at d1
   rw[e2] at d2
   cases ha:a.testBit 0<;>cases hb:b.testBit 0
   ·have m1:(a|||b)%2=0:=by rw[QW,Nat.testBit_or,ha,hb];rfl
    have m2:(a&&&b)%2=0:=by rw[QW,Nat.testBit_and,ha,hb];rfl
    have m3:a%2=0:=by rw[QW,ha];rfl
    have m4:b%2=0:=by rw[QW,hb];rfl
    omega
   ·have m1:(a|||b)%2=1:=by rw[QW,Nat.testBit_or,ha,hb];rfl
    have m2:(a&&&b)%2=0:=by rw[QW,Nat.testBit_and,ha,hb];rfl
    have m3:a%2=0:=by rw[QW,ha];rfl
    have m4:b%2=1:=by rw[QW,hb];rfl
    omega
   ·have m1:(a|||b)%2=1:=by rw[QW,Nat.testBit_or,ha,hb];rfl
    have m2:(a&&&b)%2=0:=by rw[QW,Nat.testBit_and,ha,hb];rfl
    have m3:a%2=1:=by rw[QW,ha];rfl
    have m4:b%2=0:=by rw[QW,hb];rfl
    omega
   ·have m1:(a|||b)%2=1:=by rw[QW,Nat.testBit_or,ha,hb];rfl
    have m2:(a&&&b)%2=1:=by rw[QW,Nat.testBit_and,ha,hb];rfl
    have m3:a%2=1:=by rw[QW,ha];rfl
    have m4:b%2=1:=by rw[QW,hb];rfl
    omega
theorem zmp (a b:Nat):Builtin.bitAnd (a:Int) (b:Int)=((a&&&b:Nat):Int):=by
 unfold Builtin.bitAnd
 rw[decide_eq_true (Int.natCast_nonneg a),decide_eq_true (Int.natCast_nonneg b)]
 simp
theorem orI (a b:Nat):Builtin.bitOr (a:Int) (b:Int)=((a|||b:Nat):Int):=by
 rw[PyProof.Rows.bitOr_and,zmp]
 have:=zf0 a a b (zts _)
 omega
theorem zpm (a b:Nat):Builtin.bitXor (a:Int) (b:Int)=((a ^^^ b:Nat):Int):=by
 rw[PyProof.Rows.bitXor_and,zmp]
 have:=zgY a a b (zts _)
 omega
theorem znw (n:Nat):(2:Int)^n=((2^n:Nat):Int):=by simp
end xV
namespace L2
open PySem PySem.Spec PyProof.Rows xV
section
variable {X:Cx}
def znx:R2:=fun x y H Q=>∃a n:Nat,x=.int a/\y=.int n/\a<2^10000/\n<=10000/\Q (.int (a*2^n:Nat)) H
theorem ZQ:Uu X (binaryOp .LShift) znx:=by
 intro pins s σ H x y v u Q I rx ry h
 obtain⟨a,n,rfl,rfl,ha,hn,q⟩:=h
 obtain⟨t,rfl⟩:=rx
 obtain⟨t',rfl⟩:=ry
 have hb:Builtin.Int.intBits (a:Int)<=10000:=intBits_le (by simpa using ha)
 refine lshift_int (Int.natCast_nonneg n) ?_ ?_
 ·have e:(2:Int)^27=134217728:=by decide
  rw[e];omega
 ·rw[ztP]
  have e:(a:Int)*2^n=((a*2^n:Nat):Int):=by rw[znw,Int.natCast_mul]
  rw[e]
  exact⟨.int (a*2^n:Nat),H,I.tok _,⟨_,rfl⟩,q⟩
def zny:R2:=fun x y H Q=>∃a n:Nat,x=.int a/\y=.int n/\Q (.int (a / 2^n:Nat)) H
theorem zgZ:Uu X (binaryOp .RShift) zny:=by
 intro pins s σ H x y v u Q I rx ry h
 obtain⟨a,n,rfl,rfl,q⟩:=h
 refine zl8 pins s σ H _ _ v u Q I rx ry ⟨_,_,rfl,rfl,Int.natCast_nonneg n,?_⟩
 show Q (.int ((a:Int) / 2^(n:Int).toNat)) H
 rw[ztP,znw,<-Int.natCast_ediv]
 exact q
def rN2 (g:Nat->Nat->Nat):R2:=fun x y H Q=>∃a b:Nat,x=.int a/\y=.int b/\Q (.int (g a b:Nat)) H
theorem Zg:Uu X (binaryOp .BitAnd) (rN2 (·&&&·)):=by
 intro pins s σ H x y v u Q I rx ry h
 obtain⟨a,b,rfl,rfl,q⟩:=h
 exact zl9 pins s σ H _ _ v u Q I rx ry ⟨_,_,rfl,rfl,by show Q (.int (Builtin.bitAnd a b)) H;rw[zmp];exact q⟩
theorem Vt:Uu X (binaryOp .BitOr) (rN2 (·|||·)):=by
 intro pins s σ H x y v u Q I rx ry h
 obtain⟨a,b,rfl,rfl,q⟩:=h
 exact znh pins s σ H _ _ v u Q I rx ry ⟨_,_,rfl,rfl,by show Q (.int (Builtin.bitOr a b)) H;rw[orI];exact q⟩
theorem Qm:Uu X (binaryOp .BitXor) (rN2 (· ^^^ ·)):=by
 intro pins s σ H x y v u Q I rx ry h
 obtain⟨a,b,rfl,rfl,q⟩:=h
 exact zma pins s σ H _ _ v u Q I rx ry ⟨_,_,rfl,rfl,by show Q (.int (Builtin.bitXor a b)) H;rw[zpm];exact q⟩
end
end L2
namespace L2
open PySem PySem.Spec PyProof.Rows
def strsOf:List Expr->Option (List Str)
 | []=>some []
 | .Constant (.str x) _ _::r=>(strsOf r).map (x::·)
 | _=>none
theorem zep {e:Expr}{r:List Expr}{xs:List Str}(h:strsOf (e::r)=some xs):∃x j p ys,e=.Constant (.str x) j p/\strsOf r=some ys/\xs=x::ys:=by
 cases e with
 | Constant c j p =>
  cases c with
  | str x =>
   have h':(strsOf r).map (x::·)=some xs:=h
   cases hr:strsOf r with
   | none=>rw[hr] at h';cases h'
   | some ys =>
    rw[hr] at h'
    exact⟨x,j,p,ys,rfl,rfl,(ztH h').symm⟩
  | _=>cases h
 | _=>cases h
def znz (xs:List Str):TA:=fun _ H Q=>Q (xs.map V.str) H
def zlx (xs:List Str):TE:=fun _ H Q=>xs.length<=sizeLine/\∀p,H p=none->Q (.ref p) (upd H p (.lst (xs.map V.str)))
section
variable {X:Cx}
theorem zkw {es:List Expr}:∀{xs:List Str},strsOf es=some xs->PA X es (znz xs):=by
 induction es with
 | nil =>
  intro xs h
  cases h
  exact fun pos pins s σ H Q I q=>zc pos pins s σ H Q I q
 | cons e r ih =>
  intro xs h
  obtain⟨x,j,p,ys,rfl,hr,rfl⟩:=zep h
  exact fun pos pins s σ H Q I q=>za (yg (x:=x) (j:=j) (pos:=p)) (ih hr) rfl pos pins s σ H Q I q
theorem zkx {es:List Expr}{pos:Pos}{xs:List Str}(h:strsOf es=some xs):PE X (.List es pos) (zlx xs):=by
 intro pins s σ H Q I q
 refine yM (zkw h) pins s σ H Q I ⟨?_,q.2⟩
 rw[ztc];exact q.1
def zc7:Stmt->Option (Str×List Str)
 | .Assign [.Name x _] (.List es _) _=>(strsOf es).map (x,·)
 | _=>none
theorem zc8 {st:Stmt}{x:Str}{xs:List Str}(h:zc7 st=some (x,xs)):∃p es q r,st=.Assign [.Name x p] (.List es q) r/\strsOf es=some xs:=by
 unfold zc7 at h
 split at h
 ·rename_i y p es q r
  cases hs:strsOf es with
  | none=>rw[hs] at h;cases h
  | some ys =>
   rw[hs] at h
   cases h
   exact⟨_,_,_,_,rfl,hs⟩
 ·cases h
theorem zky {i:Nat}{x:Str}{xs:List Str}{st:Stmt}(h:zc7 st=some (x,xs))(hN:X.N.Nodup)(hi:X.N[i]?=some x)(hx:Loc X.env.scope x)(hf:X.fn x=true\/X.env.scope.names.lookup x=some .local):PS X st (zj7 (zlx xs) (uF i)):=by
 obtain⟨p,es,q,r,rfl,hs⟩:=zc8 h
 exact Ka hN hi hx (zkx hs) rfl hf
end
end L2
set_option exponentiation.threshold 20000
namespace xV
open PySem L2
section
variable {K:Frag}
theorem zcm {a k:Nat}(h:a<2^k)(hk:k<=10000):a<2^10000:=ztl h (ztI (by decide) hk)
theorem zhT {n:Nat}(hn:n<=8):2^n<=256:=ztI (n:=2) (by decide) hn
inductive uY (vs:List V)(H:Hp)(Q:VK)(E9:XK):Prop
 | mk (n:Nat) (_:vs=[.int n]) (_:n<=8) (_:Q (.int ((2^2^n-1:Nat):Int)) H):uY vs H Q E9
inductive uH (vs:List V)(H:Hp)(Q:VK)(E9:XK):Prop
 | mk (p n:Nat) (_:vs=[.int p,.int n]) (_:p<n) (_:n<=8) (_:∀R:Nat,z9 n R (fun b=>b.testBit p)->Q (.int R) H):uH vs H Q E9
inductive XR (vs:List V)(H:Hp)(Q:VK)(E9:XK):Prop
 | mk (N p n:Nat) (f:Nat->Bool) (_:vs=[.int N,.int p,.int n]) (_:p<n) (_:n<=8) (_:z9 n N f) (_:∀R:Nat,z9 n R (fun b=>f (zQ b p (!b.testBit p)))->Q (.int R) H):XR vs H Q E9
def zx:List Bool->Nat
 | []=>0
 | b::r=>b.toNat+2*zx r
theorem Mt:∀(r:List Bool) (b:Bool),zx (r++[b])=zx r+b.toNat*2^r.length
 | [],b=>by simp[zx]
 | c::r,b=>by
  show c.toNat+2*zx (r++[b])=c.toNat+2*zx r+b.toNat*2^(r.length+1)
  rw[Mt r b,Nat.pow_succ]
  have:b.toNat*(2^r.length*2)=2*(b.toNat*2^r.length):=by rw[<-Nat.mul_assoc];omega
  omega
theorem Yt:∀r:List Bool,zx r<2^r.length
 | []=>by decide
 | b::r=>by
  have:=Yt r
  show b.toNat+2*zx r<2^(r.length+1)
  rw[Nat.pow_succ]
  cases b<;>simp<;>omega
theorem wg:∀(r:List Bool) (i:Nat),(zx r).testBit i=(r[i]?).getD false
 | [],i=>by simp[zx]
 | b::r,0=>by
  show(b.toNat+2*zx r).testBit 0=b
  rw[Nat.testBit_zero]
  cases b<;>simp<;>omega
 | b::r,i+1=>by
  show(b.toNat+2*zx r).testBit (i+1)=(r[i]?).getD false
  rw[Nat.testBit_succ,<-wg r i]
  have:(b.toNat+2*zx r) / 2=zx r:=by cases b<;>simp<;>omega
  rw[this]
theorem ziX {x y n:Nat}(h:x<2^n):x|||y*2^n=x+y*2^n:=by
 have e:=zf0 x x (y*2^n) (zts _)
 have z:x&&&y*2^n=0:=by
  refine Nat.eq_of_testBit_eq fun i=>?_
  rw[Nat.testBit_and,Nat.testBit_mul_two_pow,Nat.zero_testBit]
  by_cases hi:n<=i
  ·rw[Nat.testBit_lt_two_pow (ztl h (ztI (by decide) hi))]
   rfl
  ·simp[hi]
 omega
abbrev zZ (r:List Bool):List V:=r.map fun b=>V.int (b.toNat:Nat)
inductive Qn (K:Frag)(vs:List V)(H:Hp)(Q:VK)(E9:XK):Prop
 | mk (N n:Nat) (f:Nat->Bool) (l:Addr) (r:List Bool) (_:vs=[.int N,.ref l]) (_:z9 n N f) (_:zP K H l (zZ r)) (_:r.length=n) (_:n<=8) (_:∀H',Same H H'->Q (.int ((f (zx r)).toNat:Nat)) H'):Qn K vs H Q E9
theorem SJ {H:Hp}{p:Addr}(h:H p=none)(o:HO):Same H (upd H p o):=fun b u q=>by rw[zG (zA q h)];exact q
inductive Mu (K:Frag)(vs:List V)(H:Hp)(Q:VK)(E9:XK):Prop
 | mk (l:Addr) (ns:List Int) (i:Int) (_:vs=[.ref l,.int i]) (_:zP K H l (ns.map V.int)) (_:0<=i) (_:∀v:Int,Q (.int v) H):Mu K vs H Q E9
inductive Vu (vs:List V)(H:Hp)(Q:VK)(E9:XK):Prop
 | mk (c:Int) (k:Nat) (b:Int) (_:vs=[.int c,.int k,.int b]) (_:k<=40) (_:0<b) (_:b<1073741824) (_:∀r:Int,0<=r->r<b->Q (.int r) H):Vu vs H Q E9
def uw:List Str:=["a", "b", "c", "d", "e", "f", "g", "h"]
structure Q8 (os:List Str):Prop where
 nd:os.Nodup
 mem:∀x∈os,x∈uw
 pos:0<os.length
theorem zaL {α:Type}[DecidableEq α]:∀{xs ys:List α},xs.Nodup->(∀x∈xs,x∈ys)->xs.length<=ys.length
 | [],_,_,_=>ztz _
 | x::xs,ys,nd,h=>by
  obtain⟨h1,h2⟩:=List.nodup_cons.mp nd
  have hx:=h x ztw
  have ih:=zaL (xs:=xs) (ys:=ys.erase x) h2 fun y hy=>(List.mem_erase_of_ne (fun e:y=x=>h1 (by rw[<-e];exact hy))).mpr (h y (ztn _ hy))
  rw[List.length_erase_of_mem hx] at ih
  have:=List.length_pos_of_mem hx
  rw[zto]
  omega
theorem zkz {i:Nat}(h:i<8):∃c,atI (Str.ofString "abcdefgh").cps.toList (i:Int)=some c/\uw[i]?=some ⟨#[c]⟩:=by
 match i,h with
 | 0,_=>exact⟨97,by decide +kernel,by decide +kernel⟩
 | 1,_=>exact⟨98,by decide +kernel,by decide +kernel⟩
 | 2,_=>exact⟨99,by decide +kernel,by decide +kernel⟩
 | 3,_=>exact⟨100,by decide +kernel,by decide +kernel⟩
 | 4,_=>exact⟨101,by decide +kernel,by decide +kernel⟩
 | 5,_=>exact⟨102,by decide +kernel,by decide +kernel⟩
 | 6,_=>exact⟨103,by decide +kernel,by decide +kernel⟩
 | 7,_=>exact⟨104,by decide +kernel,by decide +kernel⟩
theorem zeq:uw.Nodup:=by decide +kernel
theorem ziY {i:Nat}{y:Str}(h:uw[i]?=some y):y∉uw.take i:=fun hm=>by
 obtain⟨j,hj⟩:=List.getElem?_of_mem hm
 have hlt:j<i:=by
  have:=(ztf.mp hj).1
  rw[ztA] at this
  omega
 rw[List.getElem?_take_of_lt hlt] at hj
 have h1:=(ztf.mp hj)
 have h2:=(ztf.mp h)
 obtain⟨l1,e1⟩:=h1
 obtain⟨l2,e2⟩:=h2
 have:=(List.getElem_inj zeq).mp (e1.trans e2.symm)
 omega
theorem Q8.le {os:List Str}(h:Q8 os):os.length<=8:=zaL h.nd h.mem
inductive zc9 (vs:List V)(H:Hp)(Q:VK)(E9:XK):Prop
 | mk (c:Int) (n:Nat) (_:vs=[.int c,.int n]) (_:0<n) (_:n<=8) (_:∀(l:Addr) (H':Hp) (os:List Str),Same H H'->H' l=some (.lst (os.map V.str))->Q8 os->os.length<=n->Q (.ref l) H'):zc9 vs H Q E9
def Qo (H:Hp):Sn->Addr->Prop
 | .c0 y,p=>H p=some (.tup [.str (Sn.word (.c0 y))])
 | .mk x,p=>H p=some (.tup [.str "mark", .str x])
 | .nt s,p=>∃q,H p=some (.tup [.str "not", .ref q])/\Qo H s q
 | .b2 o s t,p=>∃q r,H p=some (.tup [.str (w2 o),.ref q,.ref r])/\Qo H s q/\Qo H t r
 | .q1 o x s,p=>∃q,H p=some (.tup [.str (if o then "some" else "each"),.str x,.ref q])/\Qo H s q
def xr (H H':Hp):Prop:=∀b xs,H b=some (.tup xs)->H' b=some (.tup xs)
theorem xr.trans {H H1 H2:Hp}(a:xr H H1)(b:xr H1 H2):xr H H2:=fun c o h=>b c o (a c o h)
theorem xr.of {H H':Hp}(g:Same H H'):xr H H':=fun b xs h=>g b _ h
theorem xr.new {H:Hp}{p:Addr}(h:H p=none)(o:HO):xr H (upd H p o):=fun b u q=>by rw[zG (zA q h)];exact q
theorem xr.lst {H:Hp}{p:Addr}{xs:List V}(h:H p=some (.lst xs))(o:HO):xr H (upd H p o):=fun b u q=>by rw[zG (Sd q h (fun z=>nomatch z))];exact q
theorem Qo.mono {H H':Hp}(g:xr H H'):∀{s:Sn} {p:Addr},Qo H s p->Qo H' s p
 | .c0 y,p,h=>g _ _ h
 | .mk x,p,h=>g _ _ h
 | .nt s,p,⟨q,h,k⟩=>⟨q,g _ _ h,k.mono g⟩
 | .b2 o s t,p,⟨q,r,h,k,l⟩=>⟨q,r,g _ _ h,k.mono g,l.mono g⟩
 | .q1 o x s,p,⟨q,h,k⟩=>⟨q,g _ _ h,k.mono g⟩
theorem zda (o:Bool)(x:Str)(s:Sn):Sn.word (.q1 o x s)=if o then Str.ofString "some" else Str.ofString "each" := by cases o<;>rfl
theorem Qo.shape {H:Hp}:∀{s:Sn} {p:Addr},Qo H s p->∃qs:List Addr,H p=some (.tup (.str s.word::(s.letters.map V.str++qs.map V.ref)))/\Paired (Qo H) s.parts qs
 | .c0 y,p,h=>⟨[],h,.nil⟩
 | .mk x,p,h=>⟨[],h,.nil⟩
 | .nt s,p,⟨q,h,k⟩=>⟨[q],h,.cons k .nil⟩
 | .b2 o s t,p,⟨q,r,h,k,l⟩=>⟨[q,r],h,.cons k (.cons l .nil)⟩
 | .q1 o x s,p,⟨q,h,k⟩=>⟨[q],by rw[zda];exact h,.cons k .nil⟩
theorem zdb {α:Type}{xs:List α}{i:Int}(h0:-(xs.length:Int)<=i)(h1:i<xs.length):∃(j:Nat) (v:α),atI xs i=some v/\xs[j]?=some v:=by
 by_cases h:0<=i
 ·have hj:i.toNat<xs.length:=by omega
  have q:=yC (xs:=xs) (j:=i.toNat) (ztd hj)
  have e:((i.toNat:Nat):Int)=i:=by omega
  rw[e] at q
  exact⟨_,_,q,ztd hj⟩
 ·have hj:(i+xs.length).toNat<xs.length:=by omega
  refine⟨_,_,?_,ztd hj⟩
  unfold atI ixN
  rw[if_neg h,if_pos h0]
  show xs[(i+xs.length).toNat]?=_
  exact ztd hj
def P0:List Str:=["mark", "mark", "not", "and", "or", "either", "if", "and", "or", "some", "each", "yes", "no", "mark"]
structure Made (H0 H:Hp)(os:List Str)(m kd:Addr)(ps:List Addr)(d:Nat):Prop where
 old:Same H0 H
 mad:H m=some (.lst (ps.map V.ref))
 kin:H kd=some (.lst (P0.map V.str))
 ne:ps≠[]
 all:∀p∈ps,∃s,Qo H s p/\s.PX os/\s.depth<=d
theorem Made.push {H0 H:Hp}{os:List Str}{m kd p:Addr}{ps:List Addr}{d:Nat}{xs:List V}(M:Made H0 H os m kd ps d)(fm:H0 m=none)(hp:H p=none){s:Sn}(hs:Qo (upd H p (.tup xs)) s p)(ho:s.PX os)(hd:s.depth<=d+1)(hk:m≠kd) :
  Made H0 (upd (upd H p (.tup xs)) m (.lst ((ps++[p]).map V.ref))) os m kd (ps++[p]) (d+1):=by
 have hm:m≠p:=zA M.mad hp
 have hkp:kd≠p:=zA M.kin hp
 have mad':(upd H p (.tup xs)) m=some (.lst (ps.map V.ref)):=by rw[zG hm];exact M.mad
 have t1:xr H (upd H p (.tup xs)):=xr.new hp _
 have t2:xr (upd H p (.tup xs)) (upd (upd H p (.tup xs)) m (.lst ((ps++[p]).map V.ref))):=xr.lst mad' _
 refine⟨fun b o h=>?_,zf,?_,by simp,fun q hq=>?_⟩
 ·have h1:=M.old b o h
  rw[zG (zA h fm),zG (zA h1 hp)]
  exact h1
 ·rw[zG (Ne.symm hk),zG hkp];exact M.kin
 ·rcases List.mem_append.mp hq with z | z
  ·obtain⟨s',q1,q2,q3⟩:=M.all q z
   exact⟨s',(q1.mono t1).mono t2,q2,by omega⟩
  ·have z':q=p:=by simpa using z
   subst z'
   exact⟨s,hs.mono t2,ho,hd⟩
inductive Nb (K:Frag)(vs:List V)(H:Hp)(Q:VK)(E9:XK):Prop
 | mk (sc ol:Addr) (ns:List Int) (t m:Nat) (os:List Str) (_:vs=[.ref sc,.int t,.int m,.ref ol]) (_:zP K H sc (ns.map V.int)) (_:zP K H ol (os.map V.str)) (_:0<os.length) (_:os.length<=8) (_:0<m) (_:m<=40) (_:t<=60) (_:∀(p:Addr) (H':Hp) (s:Sn),Same H H'->Qo H' s p->s.PX os->s.depth<=m->Q (.ref p) H'):Nb K vs H Q E9
theorem Ji {os:List Str}(h0:0<os.length)(r:Int):∃x,x∈os/\atI (os.map V.str) (r%((os.map V.str).length:Nat))=some (.str x):=by
 have e:(os.map V.str).length=os.length:=ztc _
 have m0:0<=r%((os.map V.str).length:Nat):=ztV _ (by omega)
 have m1:r%((os.map V.str).length:Nat)<((os.map V.str).length:Nat):=ztR _ (by omega)
 obtain⟨j,v,q1,q2⟩:=zdb (xs:=os.map V.str) (i:=r%((os.map V.str).length:Nat)) (by omega) m1
 rw[zte] at q2
 cases hx:os[j]? with
 | none=>rw[hx] at q2;cases q2
 | some x =>
  rw[hx] at q2
  cases q2
  exact⟨x,zth hx,q1⟩
theorem Km {ps:List Addr}{i:Int}(h0:-(ps.length:Int)<=i)(h1:i<ps.length):∃p,p∈ps/\atI (ps.map V.ref) i=some (.ref p):=by
 have e:(ps.map V.ref).length=ps.length:=ztc _
 obtain⟨j,v,q1,q2⟩:=zdb (xs:=ps.map V.ref) (i:=i) (by omega) (by omega)
 rw[zte] at q2
 cases hx:ps[j]? with
 | none=>rw[hx] at q2;cases q2
 | some x =>
  rw[hx] at q2
  cases q2
  exact⟨x,zth hx,q1⟩
end
end xV
namespace L2
open PySem
section
variable {α β:Type}{R S:α->β->Prop}
theorem Xn:∀{xs ys:List α} {us ws:List β},Paired R xs us->Paired R ys ws->Paired R (xs++ys) (us++ws)
 | _,_,_,_,.nil,s=>s
 | _,_,_,_,.cons r t,s=>.cons r (Xn t s)
theorem yO (f:∀a b,R a b->S a b):∀{xs:List α} {us:List β},Paired R xs us->Paired S xs us
 | _,_,.nil=>.nil
 | _,_,.cons r t=>.cons (f _ _ r) (yO f t)
theorem yU:∀{xs:List α} {us:List β},Paired R xs us->xs.length=us.length
 | _,_,.nil=>rfl
 | _,_,.cons _ t=>by rw[zto,zto,yU t]
theorem tO:∀{xs:List α} {us:List β} {i:Nat} {x:α},Paired R xs us->xs[i]?=some x->∃u,us[i]?=some u/\R x u
 | _,_,_,_,.nil,e=>by simp at e
 | _,_,0,_,.cons r _,e=>by simp at e;subst e;exact⟨_,rfl,r⟩
 | _,_,i+1,x,.cons _ t,e=>by
  obtain⟨u,h1,h2⟩:=tO (i:=i) (x:=x) t (by simpa using e)
  exact⟨u,by simpa using h1,h2⟩
theorem Jj:∀{xs:List α} {us:List β} {i:Nat} {u:β},Paired R xs us->us[i]?=some u->∃x,xs[i]?=some x/\R x u
 | _,_,_,_,.nil,e=>by simp at e
 | _,_,0,_,.cons r _,e=>by simp at e;subst e;exact⟨_,rfl,r⟩
 | _,_,i+1,x,.cons _ t,e=>by
  obtain⟨u,h1,h2⟩:=Jj (i:=i) (u:=x) t (by simpa using e)
  exact⟨u,by simpa using h1,h2⟩
theorem yj {α:Type}{xs:List α}{i:Nat}{x:α}(h:xs[i]?=some x):xs.take (i+1)=xs.take i++[x]:=by
 rw[List.take_succ,h]
 rfl
theorem Same.znA {K:Frag}{H H':Hp}{a:Addr}{xs:List V}(e:Same H H')(h:wY K H a xs):wY K H' a xs:=by
 rcases h with (h | ⟨o,h⟩) | h
 ·exact .inl (.inl (e _ _ h))
 ·exact .inl (.inr ⟨o,e _ _ h⟩)
 ·exact .inr h
theorem Same.new {H:Hp}{p:Addr}(h:H p=none)(o:HO):Same H (upd H p o):=fun b u q=>by rw[zG (zA q h)];exact q
theorem Same.over {H H':Hp}{p:Addr}(g:Same H H')(h:H p=none)(o:HO):Same H (upd H' p o):=fun b u q=>by rw[zG (zA q h)];exact g b u q
theorem at0 {α:Type}{x:α}{xs:List α}:atI (x::xs) 0=some x:=yC (j:=0) rfl
theorem at1 {α:Type}{x y:α}{xs:List α}:atI (x::y::xs) 1=some y:=yC (j:=1) rfl
theorem at2 {α:Type}{x y z:α}{xs:List α}:atI (x::y::z::xs) 2=some z:=yC (j:=2) rfl
end
section
variable {K:Frag}{a:Addr}{xs:List V}{σ:St}{js:List Nat}{te:TE}{H:Hp}{Qf:Addr->Hp->List V->Prop}
theorem zdc (R:V->V->Prop)(hq:zP K H a xs)(hz:xs.length<=sizeLine)
  (hs:∀(i:Nat) x H',xs[i]?=some x->Same H H'->te (Zx σ js (some x)) H' fun v H3=>R x v/\Same H H3)
  (me:∀ σ H Q Q',(∀v H1,Q v H1->Q' v H1)->te σ H Q->te σ H Q')
  (hd:∀ys H' p,Paired R xs ys->Same H H'->H' p=none->Qf p H' ys) :
  ∃W:Nat->Nat->List V->Hp->Prop,(∃m,W 0 m [] H)/\∀i m ys H,W i m ys H ->
   ((Itl K a).stop i H/\∀p,H p=none->Qf p H ys) \/
   ((Itl K a).go i H/\ys.length<sizeLine/\∀x H',(Itl K a).Qe i H x H'->Sv (Zx σ js (some x)) H' fun b H2 =>
    if b=true then te (Zx σ js (some x)) H2 fun v H3=>∃m',m'<m/\W (i+1) m' (ys++[v]) H3 else ∃m',m'<m/\W (i+1) m' ys H2):=by
 refine zgW (fun i ys H'=>Same H H'/\Paired R (xs.take i) ys) ⟨Same.refl _,.nil⟩ hz ?_ ?_ (fun _ _ _ _ h q=>h _ _ q) me ?_
 ·rintro i ys H' hi ⟨g,r⟩
  have:=yU r
  rw[ztA] at this
  exact⟨g.seq hq,by omega⟩
 ·rintro i x ys H' hx ⟨g,r⟩
  show te (Zx σ js (some x)) H' fun v H3=>Same H H3/\Paired R (xs.take (i+1)) (ys++[v])
  refine me _ _ _ _ (fun v H3 h3=>⟨h3.2,?_⟩) (hs i x H' hx g)
  rw[yj hx]
  exact Xn r (.cons h3.1 .nil)
 ·rintro ys H' p ⟨g,r⟩ hp
  rw[ztF] at r
  exact hd ys H' p r g hp
theorem zg0 (R:V->V->Prop)(hq:wY K H a xs)(hz:xs.length<=sizeLine)
  (hs:∀(i:Nat) x H',xs[i]?=some x->Same H H'->te (Zx σ js (some x)) H' fun v H3=>R x v/\Same H H3)
  (me:∀ σ H Q Q',(∀v H1,Q v H1->Q' v H1)->te σ H Q->te σ H Q')
  (hd:∀ys H' p,Paired R xs ys->Same H H'->H' p=none->Qf p H' ys) :
  ∃W:Nat->Nat->List V->Hp->Prop,(∃m,W 0 m [] H)/\∀i m ys H,W i m ys H ->
   ((Itt K a).stop i H/\∀p,H p=none->Qf p H ys) \/
   ((Itt K a).go i H/\ys.length<sizeLine/\∀x H',(Itt K a).Qe i H x H'->Sv (Zx σ js (some x)) H' fun b H2 =>
    if b=true then te (Zx σ js (some x)) H2 fun v H3=>∃m',m'<m/\W (i+1) m' (ys++[v]) H3 else ∃m',m'<m/\W (i+1) m' ys H2):=by
 refine ziJ (fun i ys H'=>Same H H'/\Paired R (xs.take i) ys) ⟨Same.refl _,.nil⟩ hz ?_ ?_ (fun _ _ _ _ h q=>h _ _ q) me ?_
 ·rintro i ys H' hi ⟨g,r⟩
  have:=yU r
  rw[ztA] at this
  exact⟨g.znA hq,by omega⟩
 ·rintro i x ys H' hx ⟨g,r⟩
  show te (Zx σ js (some x)) H' fun v H3=>Same H H3/\Paired R (xs.take (i+1)) (ys++[v])
  refine me _ _ _ _ (fun v H3 h3=>⟨h3.2,?_⟩) (hs i x H' hx g)
  rw[yj hx]
  exact Xn r (.cons h3.1 .nil)
 ·rintro ys H' p ⟨g,r⟩ hp
  rw[ztF] at r
  exact hd ys H' p r g hp
theorem Ko {f:V->V}:∀{xs ys:List V},Paired (fun x v=>v=f x) xs ys->ys=xs.map f
 | _,_,.nil=>rfl
 | _,_,.cons r t=>by rw[ztB,r,Ko t]
end
section
variable {X:Cx}{K:Frag}{a:Expr}{ta:TE}
theorem zaM (h:X.K=K):Uu X (compareOp .In) (rIn K false):=by subst h;exact Qh
theorem zcn (h:X.K=K):Uu X (compareOp .NotIn) (rIn K true):=by subst h;exact Mr
theorem Mv (h:X.K=K):ZK X (.builtin "isinstance") (fun xs H Q=>∃x T t b,xs=[x,.ty T]/\Mj K H x t/\PySem.W.kitOne K t (.type T)=some b/\Q (.bl b) H):=by subst h;exact Jf
theorem zaN (h:X.K=K):IxR X (zkf K):=by subst h;exact yd
theorem zbK (h:X.K=K):ZK X (.builtin "len") (fun xs H Q=>∃p ys,xs=[.ref p]/\(zP K H p ys\/wY K H p ys)/\Q (.int ys.length) H):=by subst h;exact zy
theorem zco (h:X.K=K)(ha:PE X a ta)(he:∀whole,isTrue a X.env whole=(do let v <-whole;standAt a.pos;holding [v] (truthy v))):PT X a (fun σ H Q=>ta σ H fun x H'=>∃k,ziv K x H' k/\Q k H'):=by subst h;exact xU ha he
def zaO (sp:Sp):Prop:=∀vs H Q Q' E,(∀v H1,Q v H1->Q' v H1)->sp vs H Q E->sp vs H Q' E
theorem ziZ {sp:Sp}(m:zaO sp):∀ σ H Q Q',(∀v H1,Q v H1->Q' v H1)->Ml sp [] E0 (V2 (Sh 0) zbE) σ H Q->Ml sp [] E0 (V2 (Sh 0) zbE) σ H Q' :=
 fun σ H Q Q' h ⟨v,e,q⟩=>⟨v,e,m _ _ _ _ _ h q⟩
theorem Mw (x:Str)(ts:List Str):inV (.str x) (ts.map V.str)=decide (x∈ts):=by
 induction ts with
 | nil=>rfl
 | cons t r ih =>
  have e:inV (.str x) ((t::r).map V.str)=((t==x)||inV (.str x) (r.map V.str)):=rfl
  rw[e,ih]
  by_cases h:t=x
  ·subst h;simp
  ·have h':¬x=t:=fun z=>h z.symm
   simp[h,h']
theorem Yu (ts:List Str):(ts.map V.str).all wC=true:=by
 rw[List.all_map,ztG]
 exact fun _ _=>rfl
theorem zi0 {w:V}{rest:List V}{m n:Nat}(h:rest.length=m+n):QV (w::rest) (some 1) (some (1+(m:Int)))=rest.take m:=by
 have e1:HT.ZL (w::rest).length 0 (some 1)=min 1 (w::rest).length:=HT.Qg _ _ 1
 have e2:HT.ZL (w::rest).length (w::rest).length (some (1+(m:Int)))=min (1+m) (w::rest).length:=by
  have z:(1:Int)+(m:Int)=((1+m:Nat):Int):=by omega
  rw[z];exact HT.Qg _ _ _
 have l:(w::rest).length=m+n+1:=by rw[zto,h]
 unfold QV
 rw[e1,e2,l,Nat.min_eq_left (by omega),Nat.min_eq_left (by omega),List.drop_one,List.tail_cons]
 congr 1
 omega
theorem zi1 {w:V}{rest:List V}{m n:Nat}(h:rest.length=m+n):QV (w::rest) (some (1+(m:Int))) none=rest.drop m:=by
 have e2:HT.ZL (w::rest).length 0 (some (1+(m:Int)))=min (1+m) (w::rest).length:=by
  have z:(1:Int)+(m:Int)=((1+m:Nat):Int):=by omega
  rw[z];exact HT.Qg _ _ _
 have l:(w::rest).length=m+n+1:=by rw[zto,h]
 unfold QV
 rw[e2,HT.zaC,l,Nat.min_eq_left (by omega),Nat.add_comm 1 m,List.drop_succ_cons,List.take_of_length_le]
 rw[List.length_drop,h]
 omega
theorem zaP {w:V}{rest:List V}{i:Int}{o:Option Int}(h:1<=i):¬(HT.ZL (w::rest).length 0 (some i)=0/\HT.ZL (w::rest).length (w::rest).length o=(w::rest).length):=by
 rintro⟨h1,_⟩
 have e:HT.ZL (w::rest).length 0 (some i)=min i.toNat (w::rest).length:=by
  have z:=HT.Qg (w::rest).length 0 i.toNat
  have z2:((i.toNat:Nat):Int)=i:=by omega
  rw[z2] at z
  exact z
 rw[e,zto] at h1
 omega
end
end L2
namespace xV
open PySem L2
section
variable {K:Frag}
def Sn.all:Sn->List Str
 | .c0 _=>[]
 | .mk x=>[x]
 | .nt s=>s.all
 | .b2 _ s t=>s.all++t.all
 | .q1 _ x s=>x::s.all
theorem Sn.zdd:∀(s:Sn) (x:Str),x∈s.all↔x∈s.letters\/∃t∈s.parts,x∈t.all
 | .c0 _,x=>by simp[Sn.all,Sn.letters,Sn.parts]
 | .mk y,x=>by simp[Sn.all,Sn.letters,Sn.parts]
 | .nt s,x=>by simp[Sn.all,Sn.letters,Sn.parts]
 | .b2 _ s t,x=>by simp[Sn.all,Sn.letters,Sn.parts]
 | .q1 _ y s,x=>by simp[Sn.all,Sn.letters,Sn.parts]
theorem Sn.UG {os:List Str}:∀(s:Sn),s.PX os↔∀x∈s.all,x∈os
 | .c0 _=>by simp[Sn.all,Sn.PX]
 | .mk y=>by simp[Sn.all,Sn.PX]
 | .nt s=>by simp only[Sn.all,Sn.PX];exact Sn.UG s
 | .b2 _ s t=>by
  simp only[Sn.all,Sn.PX,List.mem_append]
  rw[Sn.UG s,Sn.UG t]
  exact⟨fun h x hx=>hx.elim (h.1 x) (h.2 x),fun h=>⟨fun x hx=>h x (.inl hx),fun x hx=>h x (.inr hx)⟩⟩
 | .q1 _ y s=>by
  simp only[Sn.all,Sn.PX,List.mem_cons]
  rw[Sn.UG s]
  exact⟨fun h x hx=>hx.elim (fun e=>by rw[e];exact h.1) (h.2 x),fun h=>⟨h y (.inl rfl),fun x hx=>h x (.inr hx)⟩⟩
theorem Sn.Mx:∀s:Sn,s.parts.length<=2
 | .c0 _=>by simp[Sn.parts]
 | .mk _=>by simp[Sn.parts]
 | .nt _=>by simp[Sn.parts]
 | .b2 _ _ _=>by simp[Sn.parts]
 | .q1 _ _ _=>by simp[Sn.parts]
theorem Sn.zaQ:∀s:Sn,s.letters.length<=1
 | .c0 _=>by simp[Sn.letters]
 | .mk _=>by simp[Sn.letters]
 | .nt _=>by simp[Sn.letters]
 | .b2 _ _ _=>by simp[Sn.letters]
 | .q1 _ _ _=>by simp[Sn.letters]
def cnt (ss:List Sn):Nat:=(ss.map Sn.count).sum
theorem cnt_cons (s:Sn)(ss:List Sn):cnt (s::ss)=s.count+cnt ss:=rfl
theorem zkA (ss ts:List Sn):cnt (ss++ts)=cnt ss+cnt ts:=by
 unfold cnt;rw[ztq,List.sum_append]
theorem Qp:∀ss:List Sn,cnt ss=ss.length+cnt (ss.flatMap Sn.parts)
 | []=>rfl
 | s::ss=>by
  rw[cnt_cons,List.flatMap_cons,zkA,Qp ss,Sn.Jh s,zto]
  show 1+cnt s.parts+_=_
  omega
theorem zg1 (ss:List Sn):ss.length<=cnt ss:=by rw[Qp];omega
theorem Kp {ss:List Sn}{t:Sn}:t∈ss.flatMap Sn.parts↔∃s∈ss,t∈s.parts:=List.mem_flatMap
inductive V5 (vs:List V)(H:Hp)(Q:VK)(E9:XK):Prop
 | mk (x:Str) (_:vs=[.str x]) (_:Q (.bl (decide (x∈uw))) H):V5 vs H Q E9
theorem Jk:zaO V5:=fun vs H Q Q' E h ⟨x,e,q⟩=>⟨x,e,h _ _ q⟩
def zde (os:List Str):Bool:=decide (0<os.length)&&(os.all (fun x=>decide (x∈uw))&&decide os.Nodup)
theorem zkB {os:List Str}(h:Q8 os):zde os=true:=by
 unfold zde
 rw[decide_eq_true h.pos,decide_eq_true h.nd,ztG.mpr fun x hx=>decide_eq_true (h.mem x hx)]
 rfl
inductive Kq (K:Frag)(vs:List V)(H:Hp)(Q:VK)(E9:XK):Prop
 | mk (l:Addr) (os:List Str) (_:vs=[.ref l]) (_:zP K H l (os.map V.str)) (_:os.length<=100) (_:∀H',Same H H'->Q (.bl (zde os)) H'):Kq K vs H Q E9
def V6 (n:Nat)(ns:List Int):Bool:=decide (ns.length=n)&&ns.all (fun i=>i==0||i==1)
inductive zaf (K:Frag)(vs:List V)(H:Hp)(Q:VK)(E9:XK):Prop
 | mk (l r:Addr) (xs:List V) (ns:List Int) (_:vs=[.ref l,.ref r]) (_:zP K H l xs) (_:zP K H r (ns.map V.int)) (_:ns.length<=1000) (_:∀H',Same H H'->Q (.bl (V6 xs.length ns)) H'):zaf K vs H Q E9
def xM:List (Str×Int×Int):=[("yes", 0,0),("no", 0,0),("mark", 1,0),("not", 0,1),("and", 0,2),("or", 0,2),("either", 0,2),("if", 0,2),("some", 1,1),("each", 1,1)]
theorem ZR (s:Sn):(s.word,((s.letters.length:Nat):Int),((s.parts.length:Nat):Int))∈xM:=by
 cases s with
 | c0 y =>
  cases y
  ·show((Str.ofString "no", (0:Int),(0:Int)):Str×Int×Int)∈xM
   decide +kernel
  ·show((Str.ofString "yes", (0:Int),(0:Int)):Str×Int×Int)∈xM
   decide +kernel
 | mk x =>
  show((Str.ofString "mark", (1:Int),(0:Int)):Str×Int×Int)∈xM
  decide +kernel
 | nt s =>
  show((Str.ofString "not", (0:Int),(1:Int)):Str×Int×Int)∈xM
  decide +kernel
 | b2 o s t =>
  show((w2 o,(0:Int),(2:Int)):Str×Int×Int)∈xM
  revert o
  decide +kernel
 | q1 o x s =>
  cases o
  ·show((Str.ofString "each", (1:Int),(1:Int)):Str×Int×Int)∈xM
   decide +kernel
  ·show((Str.ofString "some", (1:Int),(1:Int)):Str×Int×Int)∈xM
   decide +kernel
inductive Xd (vs:List V)(H:Hp)(Q:VK)(E9:XK):Prop
 | mk (p:Addr) (x:Str) (m n:Nat) (rest:List V) (_:vs=[.ref p]) (_:H p=some (.tup (.str x::rest))) (_:(x,(m:Int),(n:Int))∈xM) (_:rest.length=m+n) (_:∀q,H q=none->Q (.ref q) (upd H q (.tup (rest.take m)))):Xd vs H Q E9
inductive Yv (vs:List V)(H:Hp)(Q:VK)(E9:XK):Prop
 | mk (p:Addr) (x:Str) (m n:Nat) (rest:List V) (_:vs=[.ref p]) (_:H p=some (.tup (.str x::rest))) (_:(x,(m:Int),(n:Int))∈xM) (_:rest.length=m+n) (_:∀q,H q=none->Q (.ref q) (upd H q (.tup (rest.drop m)))):Yv vs H Q E9
theorem Qq {H:Hp}{s:Sn}{p:Addr}(h:Qo H s p):∃qs:List Addr,H p=some (.tup (.str s.word::(s.letters.map V.str++qs.map V.ref)))/\Paired (Qo H) s.parts qs /\
  (s.letters.map V.str++qs.map V.ref).length=s.letters.length+s.parts.length/\(s.letters.map V.str++qs.map V.ref).take s.letters.length=s.letters.map V.str/\(s.letters.map V.str++qs.map V.ref).drop s.letters.length=qs.map V.ref:=by
 obtain⟨qs,h1,h2⟩:=h.shape
 have l:=yU h2
 refine⟨qs,h1,h2,by simp[l],?_,?_⟩
 ·rw[List.take_append_of_le_length (by simp),List.take_of_length_le (by simp)]
 ·rw[List.drop_append_of_le_length (by simp),List.drop_of_length_le (by simp)]
  rfl
inductive Xz (K:Frag)(vs:List V)(H:Hp)(Q:VK)(E9:XK):Prop
 | mk (l:Addr) (ss:List Sn) (ps:List Addr) (_:vs=[.ref l]) (_:zP K H l (ps.map V.ref)) (_:Paired (Qo H) ss ps) (_:ss.length<=400) (_:∀(l':Addr) (H':Hp) (ps':List Addr),Same H H'->H l'=none->H' l'=some (.lst (ps'.map V.ref))->Paired (Qo H') (ss.flatMap Sn.parts) ps'->Q (.ref l') H'):Xz K vs H Q E9
inductive Mz (vs:List V)(H:Hp)(Q:VK)(E9:XK):Prop
 | mk (p:Addr) (s:Sn) (_:vs=[.ref p]) (_:Qo H s p) (_:(∀x∈s.letters,x∈uw)) (_:∀H',Same H H'->Q (.bl true) H'):Mz vs H Q E9
theorem zer:zaO Mz:=fun vs H Q Q' E h ⟨p,s,e,h1,h2,q⟩=>⟨p,s,e,h1,h2,fun H' g=>h _ _ (q H' g)⟩
abbrev VC (sn:Sn)(zs:List Addr):List V:=V.str sn.word::(sn.letters.map V.str++zs.map V.ref)
inductive zdf (vs:List V)(H:Hp)(Q:VK)(E9:XK):Prop
 | mk (p:Addr) (s:Sn) (_:vs=[.ref p]) (_:Qo H s p) (_:s.PX uw) (_:s.count<=200) (_:s.depth<=24) (_:∀H',Same H H'->Q (.bl true) H'):zdf vs H Q E9
inductive SM (K:Frag)(vs:List V)(H:Hp)(Q:VK)(E9:XK):Prop
 | mk (l:Addr) (os:List Str) (_:vs=[.ref l]) (_:zP K H l (os.map V.str)) (_:Q8 os) (_:∀H',Same H H'->Q .non H'):SM K vs H Q E9
inductive Kr (vs:List V)(H:Hp)(Q:VK)(E9:XK):Prop
 | mk (p:Addr) (s:Sn) (_:vs=[.ref p]) (_:Qo H s p) (_:s.PX uw) (_:s.count<=200) (_:s.depth<=24) (_:∀H',Same H H'->Q .non H'):Kr vs H Q E9
inductive Nf (vs:List V)(H:Hp)(Q:VK)(E9:XK):Prop
 | mk (p:Addr) (s:Sn) (_:vs=[.ref p]) (_:Qo H s p) (_:s.count<=400) (_:∀(l:Addr) (H':Hp) (ts:List Sn) (ps:List Addr),Same H H'->H l=none->H' l=some (.lst (ps.map V.ref))->Paired (Qo H') ts ps->ts.length=s.count->(∀x,(∃t∈ts,x∈t.letters)↔x∈s.all)->Q (.ref l) H'):Nf vs H Q E9
inductive SN (vs:List V)(H:Hp)(Q:VK)(E9:XK):Prop
 | mk (p:Addr) (s:Sn) (_:vs=[.ref p]) (_:Qo H s p) (_:s.count<=400) (_:∀(l:Addr) (H':Hp) (xs:List Str),Same H H'->H l=none->H' l=some (.lst (xs.map V.str))->(∀x,x∈xs↔x∈s.all)->xs.length<=400->Q (.ref l) H'):SN vs H Q E9
inductive UJ (K:Frag)(vs:List V)(H:Hp)(Q:VK)(E9:XK):Prop
 | mk (l:Addr) (x:Str) (os:List Str) (_:vs=[.ref l,.str x]) (_:zP K H l (os.map V.str)) (_:x∈os) (_:Q .non H):UJ K vs H Q E9
inductive SQ (K:Frag)(vs:List V)(H:Hp)(Q:VK)(E9:XK):Prop
 | mk (l p:Addr) (os:List Str) (s:Sn) (_:vs=[.ref l,.ref p]) (_:zP K H l (os.map V.str)) (_:Qo H s p) (_:s.count<=400) (_:s.PX os) (_:∀H',Same H H'->Q .non H'):SQ K vs H Q E9
end
end xV
namespace L2
open PySem
section
variable {K:Frag}{a:Addr}{xs:List V}{σ:St}{js:List Nat}{te:TE}{H:Hp}{Qf:Addr->Hp->List V->Prop}
theorem zkC (R:Nat->V->Prop)(hq:wY K H a xs)(hz:xs.length<=sizeLine)
  (hs:∀(i:Nat) x H',xs[i]?=some x->Same H H'->te (Zx σ js (some x)) H' fun v H3=>R i v/\Same H H3)
  (me:∀ σ H Q Q',(∀v H1,Q v H1->Q' v H1)->te σ H Q->te σ H Q')
  (hd:∀ys H' p,ys.length=xs.length->(∀(j:Nat) v,ys[j]?=some v->R j v)->Same H H'->H' p=none->Qf p H' ys) :
  ∃W:Nat->Nat->List V->Hp->Prop,(∃m,W 0 m [] H)/\∀i m ys H,W i m ys H ->
   ((Itt K a).stop i H/\∀p,H p=none->Qf p H ys) \/
   ((Itt K a).go i H/\ys.length<sizeLine/\∀x H',(Itt K a).Qe i H x H'->Sv (Zx σ js (some x)) H' fun b H2 =>
    if b=true then te (Zx σ js (some x)) H2 fun v H3=>∃m',m'<m/\W (i+1) m' (ys++[v]) H3 else ∃m',m'<m/\W (i+1) m' ys H2):=by
 refine ziJ (fun i ys H'=>Same H H'/\ys.length=i/\∀(j:Nat) v,ys[j]?=some v->R j v) ⟨Same.refl _,rfl,fun j v h=>by simp at h⟩ hz ?_ ?_ (fun _ _ _ _ h q=>h _ _ q) me ?_
 ·rintro i ys H' hi ⟨g,e,r⟩
  exact⟨g.znA hq,by omega⟩
 ·rintro i x ys H' hx ⟨g,e,r⟩
  show te (Zx σ js (some x)) H' fun v H3=>Same H H3/\(ys++[v]).length=i+1/\∀(j:Nat) u,(ys++[v])[j]?=some u->R j u
  refine me _ _ _ _ (fun v H3 h3=>⟨h3.2,by rw[ztk,e];rfl,fun j u hj=>?_⟩) (hs i x H' hx g)
  by_cases hlt:j<ys.length
  ·rw[ztJ hlt] at hj
   exact r j u hj
  ·rw[List.getElem?_append_right (by omega)] at hj
   have hj0:j-ys.length=0:=by
    have:=(ztf.mp hj).1
    rw[ztK] at this
    omega
   rw[hj0] at hj
   have ev:v=u:=ztH hj
   have ej:j=i:=by omega
   rw[<-ev,ej]
   exact h3.1
 ·rintro ys H' p ⟨g,e,r⟩ hp
  exact hd ys H' p e r g hp
theorem znB {sp:Sp}(m:zaO sp):∀ σ H Q Q',(∀v H1,Q v H1->Q' v H1)->Ml sp [] E0 (V2 (Sh 0) (V2 (Sh 1) zbE)) σ H Q->Ml sp [] E0 (V2 (Sh 0) (V2 (Sh 1) zbE)) σ H Q' :=
 fun σ H Q Q' h ⟨v,e,u,e',q⟩=>⟨v,e,u,e',m _ _ _ _ _ h q⟩
theorem ne_str {x y:Str}(h:x≠y):¬decide (V.str x=V.str y)=true:=fun z=>h (by have:=of_decide_eq_true z;injection this)
theorem len1 {α:Type}{ys:List α}(h:ys.length=1):∃v,ys=[v]:=by
 match ys,h with
 | [v],_=>exact⟨v,rfl⟩
theorem len2 {α:Type}{ys:List α}(h:ys.length=2):∃v u,ys=[v,u]:=by
 match ys,h with
 | [v,u],_=>exact⟨v,u,rfl⟩
end
end L2
namespace xV
open PySem L2
section
variable {K:Frag}
def ix (os:List Str)(x:Str):Nat:=os.findIdx (·==x)
theorem XC:∀{os:List Str} {x:Str},x∈os->(os.map V.str).findIdx? (fun z=>eqV z (.str x))=some (ix os x)/\ix os x<os.length/\os[ix os x]?=some x
 | t::r,x,h=>by
  unfold ix
  rw[ztB,List.findIdx?_cons,List.findIdx_cons]
  show(if (t==x)=true then some 0 else _)=_/\_
  by_cases e:t=x
  ·subst e
   simp
  ·have hb:(t==x)=false:=by simpa using e
   have hr:x∈r:=by
    rcases List.mem_cons.mp h with z | z
    ·exact absurd z.symm e
    ·exact z
   obtain⟨h1,h2,h3⟩:=XC hr
   rw[hb,h1]
   unfold ix at h2 h3 ⊢
   refine⟨rfl,?_,?_⟩
   ·show(r.findIdx (·==x))+1<(t::r).length
    rw[zto];omega
   ·show(t::r)[(r.findIdx (·==x))+1]?=some x
    rw[List.getElem?_cons_succ];exact h3
theorem zf1 {os:List Str}{x y:Str}(hx:x∈os)(hy:y∈os):ix os y=ix os x↔y=x:=by
 constructor
 ·intro e
  have h1:=(XC hx).2.2
  have h2:=(XC hy).2.2
  rw[e,h1] at h2
  exact(ztH h2).symm
 ·intro e;rw[e]
def xP (os:List Str)(b:Nat):Str->Bool:=fun x=>b.testBit (ix os x)
theorem zag {os:List Str}{s:Sn}{x:Str}(hs:s.PX os)(hx:x∈os)(b:Nat)(v:Bool):s.val (fun y=>if y=x then v else xP os b y)=s.val (xP os (zQ b (ix os x) v)):=by
 refine Sn.val_congr s hs fun y hy=>?_
 show _=(zQ b (ix os x) v).testBit (ix os y)
 rw[zU]
 by_cases e:y=x
 ·rw[if_pos e,if_pos ((zf1 hx hy).mpr e)]
 ·rw[if_neg e,if_neg (fun z=>e ((zf1 hx hy).mp z))]
  rfl
theorem yL (b p:Nat):zQ b p (b.testBit p)=b:=by unfold zQ;rw[if_pos rfl]
theorem zi2 {os:List Str}{s:Sn}{x:Str}(hs:s.PX os)(hx:x∈os)(b:Nat):(Sn.q1 true x s).val (xP os b)=(s.val (xP os b)||s.val (xP os (zQ b (ix os x) (!b.testBit (ix os x))))):=by
 show(s.val (fun y=>if y=x then true else xP os b y)||s.val (fun y=>if y=x then false else xP os b y))=_
 rw[zag hs hx,zag hs hx]
 have z:=yL b (ix os x)
 cases hb:b.testBit (ix os x)
 ·rw[hb] at z;rw[z];exact Bool.or_comm _ _
 ·rw[hb] at z;rw[z];rfl
theorem zi3 {os:List Str}{s:Sn}{x:Str}(hs:s.PX os)(hx:x∈os)(b:Nat):(Sn.q1 false x s).val (xP os b)=(s.val (xP os b)&&s.val (xP os (zQ b (ix os x) (!b.testBit (ix os x))))):=by
 show(s.val (fun y=>if y=x then true else xP os b y)&&s.val (fun y=>if y=x then false else xP os b y))=_
 rw[zag hs hx,zag hs hx]
 have z:=yL b (ix os x)
 cases hb:b.testBit (ix os x)
 ·rw[hb] at z;rw[z];exact Bool.and_comm _ _
 ·rw[hb] at z;rw[z];rfl
def TabOf (os:List Str)(s:Sn)(N:Nat):Prop:=z9 os.length N (fun b=>s.val (xP os b))
theorem zly:∀o,w2 o≠Str.ofString "no" := by decide +kernel
theorem zi4:∀o,w2 o≠Str.ofString "yes" := by decide +kernel
theorem zg2:∀o,w2 o≠Str.ofString "mark" := by decide +kernel
theorem zi5:∀o,w2 o≠Str.ofString "not" := by decide +kernel
theorem zg3:∀o,w2 o≠Str.ofString "some" := by decide +kernel
theorem zg4:∀o,w2 o≠Str.ofString "each" := by decide +kernel
theorem zmq (o:Fin 4):o=0\/o=1\/o=2\/o=3:=by
 match o with
 | 0=>exact .inl rfl
 | 1=>exact .inr (.inl rfl)
 | 2=>exact .inr (.inr (.inl rfl))
 | 3=>exact .inr (.inr (.inr rfl))
inductive zes (vs:List V)(H:Hp)(Q:VK)(E9:XK):Prop
 | mk (o:Fin 4) (N M n:Nat) (f g:Nat->Bool) (_:vs=[.str (w2 o),.int N,.int M,.int ((2^2^n-1:Nat):Int)]) (_:z9 n N f) (_:z9 n M g) (_:∀R:Nat,z9 n R (fun b=>Sn.op2 o (f b) (g b))->Q (.int R) H):zes vs H Q E9
inductive UL (K:Frag)(d:Nat)(vs:List V)(H:Hp)(Q:VK)(E9:XK):Prop
 | mk (p l:Addr) (s:Sn) (os:List Str) (_:vs=[.ref p,.ref l]) (_:Qo H s p) (_:zP K H l (os.map V.str)) (_:s.PX os) (_:os.length<=8) (_:s.depth<=d) (_:∀(N:Nat) (H':Hp),Same H H'->TabOf os s N->Q (.int N) H'):UL K d vs H Q E9
theorem zf2 (d:Nat):zaO (UL K d):=fun vs H Q Q' E h ⟨p,l,s,os,e,h1,h2,h3,h4,h5,q⟩=>⟨p,l,s,os,e,h1,h2,h3,h4,h5,fun N H' g z=>h _ _ (q N H' g z)⟩
end
end xV
namespace L2
open PySem
theorem Ks {x a b:Str}(h1:x≠a)(h2:x≠b):¬(if false=true then !inV (.str x) [.str a,.str b] else inV (.str x) [.str a,.str b])=true:=by
 rw[if_neg ztg]
 have e:=Mw x [a,b]
 have e':inV (.str x) [.str a,.str b]=decide (x∈[a,b]):=e
 rw[e']
 intro z
 have:=of_decide_eq_true z
 simp at this
 rcases this with z | z
 ·exact h1 z
 ·exact h2 z
theorem zdg {x a b:Str}(h:x=a\/x=b):(if false=true then !inV (.str x) [.str a,.str b] else inV (.str x) [.str a,.str b])=true:=by
 rw[if_neg ztg]
 have e:=Mw x [a,b]
 have e':inV (.str x) [.str a,.str b]=decide (x∈[a,b]):=e
 rw[e']
 refine decide_eq_true ?_
 simp
 exact h
end L2
namespace xV
open PySem L2
section
variable {K:Frag}
theorem znC:∀o:Bool,(if o then Str.ofString "some" else Str.ofString "each")≠Str.ofString "yes" /\ (if o then Str.ofString "some" else Str.ofString "each")≠Str.ofString "no" /\ (if o then Str.ofString "some" else Str.ofString "each")≠Str.ofString "mark" := by decide +kernel
theorem zg5 {os:List Str}{s:Sn}{x:Str}{r:List Bool}(hs:s.PX os)(hx:x∈os)(hl:r.length=os.length)(b:Bool):s.val (xP os (zx (r.set (ix os x) b)))=s.val (fun y=>if y=x then b else xP os (zx r) y):=by
 refine Sn.val_congr s hs fun y hy=>?_
 show(zx (r.set (ix os x) b)).testBit (ix os y)=if y=x then b else (zx r).testBit (ix os y)
 rw[wg,wg]
 by_cases e:y=x
 ·rw[if_pos e,e,List.getElem?_set_self (by rw[hl];exact(XC hx).2.1)]
  rfl
 ·rw[if_neg e,List.getElem?_set_ne (fun z=>e ((zf1 hx hy).mp z.symm))]
theorem zi6 (r:List Bool)(i:Nat)(b:Bool):(zZ r).set i (.int (b.toNat:Nat))=zZ (r.set i b):=by
 unfold zZ
 rw[List.map_set]
theorem zkD {r:List Bool}{i:Nat}(h:i<r.length):(zZ r)[i]?=some (.int (((r[i]?).getD false).toNat:Nat)):=by
 rw[zte,ztd h]
 rfl
inductive MF (K:Frag)(d:Nat)(vs:List V)(H:Hp)(Q:VK)(E9:XK):Prop
 | mk (p l rl:Addr) (s:Sn) (os:List Str) (r:List Bool) (_:vs=[.ref p,.ref l,.ref rl]) (_:Qo H s p) (_:zP K H l (os.map V.str)) (_:zP K H rl (zZ r)) (_:s.PX os) (_:os.length<=8) (_:r.length=os.length) (_:s.depth<=d) (_:∀H',Same H H'->Q (.int ((s.val (xP os (zx r))).toNat:Nat)) H'):MF K d vs H Q E9
inductive zg6 (K:Frag)(vs:List V)(H:Hp)(Q:VK)(E9:XK):Prop
 | mk (a:Addr) (ns:List Int) (_:vs=[.ref a]) (_:zP K H a (ns.map V.int)) (_:ns.length<=63) (_:∀H',Q (.bl true) H'):zg6 K vs H Q E9
end
end xV
namespace L2
open PySem PySem.Spec PyProof.Rows
theorem QX {α:Type}{us:List α}(h:us.length=0):us=[]:=List.length_eq_zero_iff.mp h
theorem MJ {α:Type}{us:List α}{n:Nat}(h:us.length=n+1):∃a vs,us=a::vs/\vs.length=n:=by
 cases us with
 | nil=>cases h
 | cons a vs=>exact⟨a,vs,rfl,by simpa using h⟩
def znD (N P:List Str)(sc:Scope):Bool:=(match sc.kind with | .function=>true | _=>false)&&!sc.isCoroutine&&!sc.isGenerator&&decide N.Nodup&&decide (N.take P.length=P)&&P.all (fun x=>decide (sc.names.lookup x=some .local\/sc.names.lookup x=some .cell))&&sc.names.all (fun y=>decide (y.2≠.free))
theorem fsc {N P:List Str}{sc:Scope}(h:znD N P sc=true):zN N P sc:=by
 unfold znD at h
 simp only[ztE,Bool.not_eq_true',decide_eq_true_eq,ztG] at h
 obtain⟨⟨⟨⟨⟨⟨h1,h2⟩,h3⟩,h4⟩,h5⟩,h6⟩,h7⟩:=h
 refine⟨?_,h2,h3,h4,h5,h6,h7⟩
 revert h1
 cases sc.kind<;>simp
structure Df (K:Frag)(mg:Str->Option Value)(x:Str)(st:Stmt)(f:Addr)(d:FuncData)(ps:List Str):Prop where
 F:Fun K x x st f d
 b:Binds K d ps []
 m:mg x=some (.ref f)
structure Dm (K:Frag)(C:Addr)(x q:Str)(st:Stmt)(f:Addr)(d:FuncData)(ps:List Str):Prop where
 F:Fun K x q st f d
 b:Binds K d ps []
 e:Meth K C x f
section
variable {K:Frag}{h:Heap}{mg:Str->Option Value}{x q:Str}{st:Stmt}{f C:Addr}{oc:Value}{od an:Option Addr}{osl:Array (Option Value)}{kV doc pm cdv ct:Value}{ps:List Str}
theorem dfm (X:K.In h)(G:h.Ns mainGlobals mg)(n:nsIn K mainGlobals x=some (some (.ref f)))(l:K.lookup f=some ⟨oc,od,.func (PySem.W.fnOf x x (YK st) (ur st) (zu st) .none kV doc pm an cdv ct),osl⟩)
  (c:PySem.W.codeIn K cdv x=true)(k:PySem.W.keepIn K (.ref f)=true)
  (b:∀(kV doc pm:Value) (an:Option Addr) (cdv ct:Value) (us:List Value),us.length=ps.length->bindArgs (PySem.W.fnOf x x (YK st) (ur st) (zu st) .none kV doc pm an cdv ct) ⟨us,[]⟩=pure (ps.zip us)) :
  Df K mg x st f (PySem.W.fnOf x x (YK st) (ur st) (zu st) .none kV doc pm an cdv ct) ps:=⟨zc0 l c k,(zc0 l c k).binds b,mg_of X G n⟩
theorem dmm (n:findIn K (.ref C) x=some (some (.ref f)))(i:PySem.W.isFn K (.ref f)=true)(l:K.lookup f=some ⟨oc,od,.func (PySem.W.fnOf x q (YK st) (ur st) (zu st) .none kV doc pm an cdv ct),osl⟩)
  (c:PySem.W.codeIn K cdv q=true)(k:PySem.W.keepIn K (.ref f)=true)
  (b:∀(kV doc pm:Value) (an:Option Addr) (cdv ct:Value) (us:List Value),us.length=ps.length->bindArgs (PySem.W.fnOf x q (YK st) (ur st) (zu st) .none kV doc pm an cdv ct) ⟨us,[]⟩=pure (ps.zip us)) :
  Dm K C x q st f (PySem.W.fnOf x q (YK st) (ur st) (zu st) .none kV doc pm an cdv ct) ps:=⟨zc0 l c k,(zc0 l c k).binds b,⟨n,i,k⟩⟩
theorem zg7 {p:Addr}{it:Array Value}{n:Nat}{od:Option Addr}{sl:Array (Option Value)}{xs:List V}(l:K.lookup p=some ⟨.type "tuple", od,.seq it n,sl⟩)(v:it.toList.map zbC=xs.map some)(h:xs.length<=1000):∀H,wY K H p xs:=fun H=>zlw l v h
end
section
variable {X:Cx}{CX:CXT}{k:Nat}{f C:Addr}{fd:FuncData}{ps:List Str}{sp:Sp}{st:Stmt}{x q m:Str}{p pos apos:Pos}{e o:Expr}{es:List Expr}{t:TA}{ta:TE}{E:XK}
theorem zp (F:zF X.prog X.w X.K X.mg X.base zY k f fd ps sp)(hr:Zn k X.A)(D:Df X.K X.mg x st f fd ps)(ha:PA X (e::es) t)(hg:Gl X x:=by rfl)(hdb:(x==("__debug__" : Str))=false:=by decide)(he:starEach (e::es) X.env=(false,eval e X.env)::starEach es X.env:=by rfl)(hpl:(backTo pos (starEach es X.env)).any (·.1)=false:=by rfl) :
  PE X (.Call (.Name x p) (e::es) [] pos) (Ml sp [] E0 t):=zka F hr hg D.m D.F.2 D.b .nil zgT ha hdb he hpl
theorem tQ {pl:Sem Bool}(he:PE X o ta)(c:Cls X.K C)(D:Dm X.K C m q st f fd ps)(F:zF X.prog X.w X.K X.mg X.base zY k f fd ps sp)(hr:Zn k X.A)(ha:PA X (e::es) t)
  (hst:starEach (e::es) X.env=(false,eval e X.env)::starEach es X.env:=by rfl)(hpl:(backTo pos (starEach es X.env)).any (·.1)=false:=by rfl)
  (ht:eval (.Call (.Attribute o m apos) (e::es) [] pos) X.env=(do
   let ov <-eval o X.env
   standAt apos.atName
   let (f,first) <-holding [ov] (getMethod ov m pl)
   callWith pos f first (backTo pos (starEach (e::es) X.env)) (backToKw pos (keywordEach [] X.env))):=by rfl) :
  PE X (.Call (.Attribute o m apos) (e::es) [] pos) (zgP C m sp [] E0 ta t):=zkb he c D.e F hr D.b .nil zgT ha hst hpl ht
theorem Qs {pl:Sem Bool}(he:PE X o ta)(c:Cls X.K C)(D:Dm X.K C m q st f fd ps)(F:zF X.prog X.w X.K X.mg X.base zY k f fd ps sp)(hr:Zn k X.A)
  (ht:eval (.Call (.Attribute o m apos) [] [] pos) X.env=(do
   let ov <-eval o X.env
   standAt apos.atName
   let (f,first) <-holding [ov] (getMethod ov m pl)
   callWith pos f first (backTo pos (starEach [] X.env)) (backToKw pos (keywordEach [] X.env))):=by rfl) :
  PE X (.Call (.Attribute o m apos) [] [] pos) (zgP C m sp [] E0 ta zbE):=ziy he c D.e F hr D.b .nil zgT ht
end
inductive Ent (K:Frag)(w:World):List DictEntry->List (Str×Int×Int)->List (Str×Value)->Prop
 | nil:Ent K w [] [] []
 | cons {k:Str} {tk:Tok} {p:Addr} {m n:Int} {od:Option Addr} {it:Array Value} {z:Nat} {sl:Array (Option Value)} {es:List DictEntry} {tb:List (Str×Int×Int)} {kvs:List (Str×Value)} (l:K.lookup p=some ⟨.type "tuple", od,.seq it z,sl⟩) (v:it.toList.map zbC=[V.int m,V.int n].map some) (t:Ent K w es tb kvs) :
   Ent K w (⟨hashStr w k,.str k tk,.ref p⟩::es) ((k,m,n)::tb) ((k,.ref p)::kvs)
structure Shp (K:Frag)(P:Program)(w:World)(a:Addr)(kvs:List (Str×Value))(tb:List (Str×Int×Int)):Prop where
 d:zkr K P w a kvs
 y:∀k m n,(k,m,n)∈tb->∃p,valueAt kvs k=some (.ref p)/\∀H,wY K H p [.int m,.int n]
 z:∀k,(∀e∈tb,e.1≠k)->valueAt kvs k=none
theorem Ent.keys {K:Frag}{w:World}{es:List DictEntry}{tb:List (Str×Int×Int)}{kvs:List (Str×Value)}(h:Ent K w es tb kvs):kvs.map (·.1)=tb.map (·.1):=by
 induction h with
 | nil=>rfl
 | cons _ _ _ ih=>rw[ztB,ztB,ih]
theorem zmr {K:Frag}{P:Program}{w:World}{a:Addr}{es:Array DictEntry}{ep:Nat}{kvs:List (Str×Value)}{tb:List (Str×Int×Int)}(l:K.lookup a=some ⟨.type "dict", none,.dict es ep,#[]⟩)(s:(a==sysModules)=false)(nd:decide (tb.map (·.1)).Nodup=true)(h:Ent K w es.toList tb kvs):Shp K P w a kvs tb:=by
 have nk:(kvs.map (·.1)).Nodup:=by rw[h.keys];exact of_decide_eq_true nd
 obtain⟨el,hel⟩:∃el,es.toList=el:=⟨_,rfl⟩
 rw[hel] at h
 refine⟨zkv l hel s ?_ nk,?_,?_⟩
 ·clear nd nk l s hel
  induction h with
  | nil=>exact zmo
  | cons _ _ _ ih=>exact zku ih
 ·clear nd l s hel
  induction h with
  | nil=>intro k m n hm;cases hm
  | @cons k0 tk p m0 n0 od it z sl es tb kvs l v t ih =>
   intro k m n hm
   rw[ztB,List.nodup_cons] at nk
   rcases List.mem_cons.mp hm with e | e
   ·cases e
    refine⟨p,?_,fun H=>zlw l v (by show 2<=1000;decide)⟩
    simp[valueAt]
   ·obtain⟨q,hq,sq⟩:=ih nk.2 k m n e
    refine⟨q,?_,sq⟩
    have ne:k0≠k:=fun z=>nk.1 (by rw[z,t.keys];exact List.mem_map.mpr ⟨_,e,rfl⟩)
    simp[valueAt,ne] at hq ⊢
    exact hq
 ·clear nd nk l s hel
  induction h with
  | nil=>intro k _;rfl
  | @cons k0 tk p m0 n0 od it z sl es tb kvs l v t ih =>
   intro k hk
   have ne:=hk (k0,m0,n0) (ztw ..)
   have:=ih k fun e he=>hk e (ztn _ he)
   simp[valueAt] at this ⊢
   exact⟨ne,this⟩
theorem zH {X:Cx}{pos:Pos}(i:Nat){x:Str}{e:Expr}{te:TE}{pos':Pos}(hN:X.N.Nodup)(he:PE X e te)(hi:X.N[i]?=some x:=by rfl)(hx:Loc X.env.scope x:=by exact Or.inl rfl)(hs:swapsWith e (some (.Name x pos')) pos.line X.env=pure false:=by rfl)(hf:X.fn x=true\/X.env.scope.names.lookup x=some .local:=by first | exact .inl rfl | exact .inr rfl | assumption) :
  PS X (.Assign [.Name x pos'] e pos) (zj7 te (uF i)):=Ka hN hi hx he hs hf
def lcB (wV sc:Scope)(x:Str)(fv:List Str):Bool:=(match sc.kind with | .function=>true | _=>false)&&sc.names.all (fun y=>decide (y.2≠.cell))&&sc.names.all (fun y=>decide (y.2=.local->sc.names.lookup y.1=some .local))&&decide (sc.names.lookup x=some .local)&&sc.names.all (fun y=>decide (y.2=.free->wV.names.lookup y.1=some .cell\/wV.names.lookup y.1=some .free))&&fv.all (fun y=>decide (sc.names.lookup y=some .free/\(wV.names.lookup y=some .cell\/wV.names.lookup y=some .free)))&&decide (x::fv).Nodup
theorem Ku {wV sc:Scope}{x:Str}{fv:List Str}(h:lcB wV sc x fv=true):uX wV sc x fv:=by
 unfold lcB at h
 simp only[ztE,decide_eq_true_eq,ztG] at h
 obtain⟨⟨⟨⟨⟨⟨h1,h2⟩,h3⟩,h4⟩,h5⟩,h6⟩,h7⟩:=h
 refine⟨?_,h2,h3,h4,h5,h6,h7⟩
 revert h1
 cases sc.kind<;>simp
section
variable {κ:Type}[DecidableEq κ]
def ZD (kvs:List (κ×V))(k:κ):Option V:=(kvs.find? fun kv=>decide (kv.1=k)).map (·.2)
def putK (kvs:List (κ×V))(k:κ)(v:V):List (κ×V) :=
 if (kvs.any fun kv=>decide (kv.1=k))=true then kvs.map (fun kv=>if kv.1=k then (kv.1,v) else kv) else kvs++[(k,v)]
def Jl (kvs:List (κ×V))(k:κ):List (κ×V):=kvs.filter fun kv=>decide (kv.1≠k)
theorem vX {p:κ×V}{r:List (κ×V)}{k:κ}(e:p.1=k):ZD (p::r) k=some p.2:=by simp[ZD,List.find?_cons,e]
theorem vh {p:κ×V}{r:List (κ×V)}{k:κ}(e:¬p.1=k):ZD (p::r) k=ZD r k:=by simp[ZD,List.find?_cons,e]
theorem SX (k:κ):∀kvs:List (κ×V),(kvs.any fun kv=>decide (kv.1=k))=(ZD kvs k).isSome
 | []=>rfl
 | p::r=>by
  rw[List.any_cons]
  by_cases e:p.1=k
  ·simp only[vX e,decide_eq_true e,Bool.true_or,Option.isSome_some]
  ·rw[vh e,decide_eq_false e,Bool.false_or];exact SX k r
theorem zet (k j:κ)(y:V):∀kvs:List (κ×V),ZD (kvs.map fun kv=>if kv.1=k then (kv.1,y) else kv) j=(ZD kvs j).map fun x=>if j=k then y else x
 | []=>rfl
 | p::r=>by
  have ih:=zet k j y r
  rw[ztB]
  by_cases h:p.1=k
  ·rw[if_pos h]
   by_cases e:p.1=j
   ·rw[vX (p:=(p.1,y)) e,vX e,Option.map_some,if_pos (e.symm.trans h)]
   ·rw[vh (p:=(p.1,y)) e,vh e,ih]
  ·rw[if_neg h]
   by_cases e:p.1=j
   ·rw[vX (p:=p) e,vX e,Option.map_some,if_neg (fun z=>h (e.trans z))]
   ·rw[vh (p:=p) e,vh e,ih]
theorem zcp (k j:κ)(y:V):∀kvs:List (κ×V),ZD kvs k=none->ZD (kvs++[(k,y)]) j=if j=k then some y else ZD kvs j
 | [],_=>by
  by_cases e:k=j
  ·rw[if_pos e.symm];exact vX (p:=(k,y)) e
  ·rw[if_neg (fun z=>e z.symm)];exact vh (p:=(k,y)) e
 | p::r,hn=>by
  rw[List.cons_append]
  have hk:¬p.1=k:=fun z=>by rw[vX z] at hn;cases hn
  rw[vh hk] at hn
  have ih:=zcp k j y r hn
  by_cases e:p.1=j
  ·rw[vX e,vX e,if_neg (fun z=>hk (e.trans z))]
  ·rw[vh e,vh e,ih]
theorem vm (kvs:List (κ×V))(k j:κ)(y:V):ZD (putK kvs k y) j=if j=k then some y else ZD kvs j:=by
 unfold putK
 by_cases a:(kvs.any fun kv=>decide (kv.1=k))=true
 ·rw[if_pos a,zet]
  rw[SX] at a
  by_cases e:j=k
  ·obtain⟨x,hx⟩:=Option.isSome_iff_exists.mp a
   rw[if_pos e,e,hx,Option.map_some,if_pos rfl]
  ·rw[if_neg e]
   cases ZD kvs j with
   | none=>rfl
   | some x=>rw[Option.map_some,if_neg e]
 ·rw[if_neg a]
  refine zcp k j y kvs ?_
  rw[SX] at a
  cases q:ZD kvs k with
  | none=>rfl
  | some x=>rw[q] at a;exact(a rfl).elim
theorem Vb (kvs:List (κ×V))(k:κ)(v:V):(putK kvs k v).length<=kvs.length+1:=by
 unfold putK
 split
 ·rw[ztc];omega
 ·rw[ztk,zto,List.length_nil];omega
theorem zi7 {kvs:List (κ×V)}{k:κ}(v:V)(h:ZD kvs k=none):putK kvs k v=kvs++[(k,v)]:=by
 unfold putK
 rw[SX,h]
 exact if_neg (by decide)
theorem T9.Qt {o:Option V}{u:Option Value}(r:T9 o u):o.isSome=u.isSome:=by
 cases o with
 | none=>cases u with
  | none=>rfl
  | some _=>exact(show False from r).elim
 | some _=>cases u with
  | none=>exact(show False from r).elim
  | some _=>rfl
theorem KV.val {kvs:List (κ×V)}{vs:List (κ×Value)}(r:KV kvs vs)(k:κ):T9 (ZD kvs k) (valueAt vs k):=by
 unfold KV at r
 induction r with
 | nil=>exact True.intro
 | @cons p q ps qs h t ih =>
  obtain⟨h1,h2⟩:=h
  by_cases e:p.1=k
  ·have e':q.1=k:=h1.symm.trans e
   have b:valueAt (q::qs) k=some q.2:=by simp[valueAt,List.find?_cons,e']
   rw[vX e,b];exact h2
  ·have e':¬q.1=k:=fun z=>e (h1.trans z)
   have b:valueAt (q::qs) k=valueAt qs k:=by simp[valueAt,List.find?_cons,e']
   rw[vh e,b];exact ih
theorem KV.any {kvs:List (κ×V)}{vs:List (κ×Value)}(r:KV kvs vs)(k:κ):(kvs.any fun kv=>decide (kv.1=k))=vs.any fun kv=>decide (kv.1=k):=by
 unfold KV at r
 induction r with
 | nil=>rfl
 | cons h t ih=>rw[List.any_cons,List.any_cons,ih,h.1]
theorem KV.repl {kvs:List (κ×V)}{vs:List (κ×Value)}(r:KV kvs vs)(k:κ){y:V}{u:Value}(ry:RelV y u) :
  KV (kvs.map fun kv=>if kv.1=k then (kv.1,y) else kv) (vs.map fun kv=>if kv.1=k then (kv.1,u) else kv):=by
 unfold KV at r ⊢
 induction r with
 | nil=>exact .nil
 | @cons p q ps qs h t ih =>
  rw[ztB,ztB]
  refine .cons ?_ ih
  obtain⟨h1,h2⟩:=h
  by_cases e:p.1=k
  ·rw[if_pos e,if_pos (h1.symm.trans e)];exact⟨h1,ry⟩
  ·rw[if_neg e,if_neg (fun z=>e (h1.trans z))];exact⟨h1,h2⟩
theorem KV.put {kvs:List (κ×V)}{vs:List (κ×Value)}(r:KV kvs vs)(k:κ){y:V}{u:Value}(ry:RelV y u):KV (putK kvs k y) (stored vs k u):=by
 unfold putK stored
 rw[r.any k]
 by_cases e:(vs.any fun kv=>decide (kv.1=k))=true
 ·rw[if_pos e,if_pos e];exact r.repl k ry
 ·rw[if_neg e,if_neg e];exact Paired.snoc r ⟨rfl,ry⟩
theorem KV.drop {kvs:List (κ×V)}{vs:List (κ×Value)}(r:KV kvs vs)(k:κ):KV (Jl kvs k) (without vs k):=by
 unfold KV at r ⊢
 unfold Jl without
 induction r with
 | nil=>exact .nil
 | @cons p q ps qs h t ih =>
  obtain⟨h1,h2⟩:=h
  rw[List.filter_cons,List.filter_cons]
  by_cases e:p.1=k
  ·have a:¬decide (p.1≠k)=true:=by simp[e]
   have b:¬decide (q.1≠k)=true:=by simp[h1.symm.trans e]
   rw[if_neg a,if_neg b];exact ih
  ·have e':¬q.1=k:=fun z=>e (h1.trans z)
   have a:decide (p.1≠k)=true:=by simp[e]
   have b:decide (q.1≠k)=true:=by simp[e']
   rw[if_pos a,if_pos b];exact .cons ⟨h1,h2⟩ ih
theorem KV.length {kvs:List (κ×V)}{vs:List (κ×Value)}(r:KV kvs vs):kvs.length=vs.length:=Paired.length r
theorem zeu (kvs:List (κ×V))(k:κ):(Jl kvs k).length<=kvs.length:=ztL _ _
end
theorem zaR {P:Program}{w:World}{k:Key}{u:Value}(r:RelV (kV k) u):(yx P w).is k u=true:=by
 cases k with
 | inl i=>obtain⟨t,e⟩:=(show ∃t,u=Value.int i t from r);subst e;exact zeb P w i t
 | inr x=>obtain⟨t,e⟩:=(show ∃t,u=Value.str x t from r);subst e;exact zec P w x t
theorem zcq {P:Program}{w:World}:∀{ks:List Key} {us:List Value},Vals (ks.map kV) us->ItemsAre (yx P w) ks us
 | [],_,r=>by rw[List.map_nil] at r;cases r;exact .nil
 | k::ks,_,r=>by
  rw[ztB] at r
  cases r with
  | cons h t=>exact .cons (zaR h) (zcq t)
abbrev KT (H:Hp):List (List Key×V)->List (List Key×Addr×Value)->Prop:=Paired fun p q=>p.1=q.1/\H q.2.1=some (.tup (p.1.map kV))/\RelV p.2 q.2.2
theorem KT.val {H:Hp}{kvs:List (List Key×V)}{xs:List (List Key×Addr×Value)}(r:KT H kvs xs)(k:List Key):T9 (ZD kvs k) ((atKey xs k).map (·.2)):=by
 induction r with
 | nil=>exact True.intro
 | @cons p q ps qs h t ih =>
  obtain⟨h1,_,h2⟩:=h
  by_cases e:p.1=k
  ·have e':q.1=k:=h1.symm.trans e
   have b:atKey (q::qs) k=some q.2:=by simp[atKey,List.find?_cons,e']
   rw[vX e,b];exact h2
  ·have e':¬q.1=k:=fun z=>e (h1.trans z)
   have b:atKey (q::qs) k=atKey qs k:=by simp[atKey,List.find?_cons,e']
   rw[vh e,b];exact ih
theorem KT.repl {H:Hp}{kvs:List (List Key×V)}{xs:List (List Key×Addr×Value)}(r:KT H kvs xs)(k:List Key){y:V}{u:Value}(ry:RelV y u) :
  KT H (kvs.map fun kv=>if kv.1=k then (kv.1,y) else kv) (xs.map (putAt k u)):=by
 induction r with
 | nil=>exact .nil
 | @cons p q ps qs h t ih =>
  rw[ztB,ztB]
  refine .cons ?_ ih
  obtain⟨h1,h2,h3⟩:=h
  unfold putAt
  by_cases e:p.1=k
  ·rw[if_pos e,if_pos (h1.symm.trans e)];exact⟨h1,h2,ry⟩
  ·rw[if_neg e,if_neg (fun z=>e (h1.trans z))];exact⟨h1,h2,h3⟩
theorem KT.put {H:Hp}{kvs:List (List Key×V)}{xs:List (List Key×Addr×Value)}(r:KT H kvs xs)(k:List Key){b:Addr}{y:V}{u:Value}(hb:H b=some (.tup (k.map kV)))(ry:RelV y u) :
  KT H (putK kvs k y) (storedH xs k b u):=by
 have e:(kvs.any fun kv=>decide (kv.1=k))=(atKey xs k).isSome:=by
  rw[SX,(r.val k).Qt,Option.isSome_map]
 unfold putK storedH
 rw[e]
 by_cases q:(atKey xs k).isSome=true
 ·rw[if_pos q,if_pos q];exact r.repl k ry
 ·rw[if_neg q,if_neg q];exact Paired.snoc r ⟨rfl,hb,ry⟩
theorem KT.keeps {H H':Hp}{kvs:List (List Key×V)}{xs:List (List Key×Addr×Value)}(r:KT H kvs xs)(ht:∀b ys,H b=some (.tup ys)->H' b=some (.tup ys)):KT H' kvs xs :=
 Paired.zlV r fun _ _ z=>⟨z.1,ht _ _ z.2.1,z.2.2⟩
section
variable {P:Program}{w:World}{H:Hp}{h:Heap}{a:Addr}
theorem zlz {u:HO}(ok:QT P w H h)(e:Rd H a u):xZ P w H h a u:=e.ok ok
theorem zg8 {kvs:List (Key×V)}(ok:QT P w H h)(e:Rd H a (.dK kvs)):kvs.length<=sizeLine/\(a==sysModules)=false/\∃vs,KV kvs vs/\h.DictOf (yx P w) a vs :=
 show xZ P w H h a (.dK kvs) from zlz ok e
theorem zg9 {kvs:List (Key×V)}(ok:QT P w H h)(e:H a=some (.dK kvs)):kvs.length<=sizeLine/\(a==sysModules)=false/\∃vs,KV kvs vs/\h.DictOf (yx P w) a vs:=zg8 ok (.inl e)
theorem zdh {ks:List Key}(ok:QT P w H h)(e:H a=some (.tup (ks.map kV))):(tupleKind (yx P w)).is h ks a:=by
 obtain⟨_,its,r,o,h1,h2,n,h3⟩:=(show xZ P w H h a (.tup (ks.map kV)) from ok a _ e)
 exact⟨o,its.toArray,n,h1,h2,h3,by simpa using zcq r⟩
theorem zha {kvs:List (List Key×V)}(ok:QT P w H h)(e:Rd H a (.dT kvs)):kvs.length<=sizeLine/\(a==sysModules)=false /\
  ∃xs,KT H kvs xs/\h.DictOfH (tupleKind (yx P w)) a xs:=by
 obtain⟨z,y,xs,r,o,es,ep,h1,h2,h3,h4,h5⟩:=(show xZ P w H h a (.dT kvs) from zlz ok e)
 refine⟨z,y,xs,r,o,es,ep,h1,h2,h3,h4,fun x hx=>?_,h5⟩
 have all:∀{l:List (List Key×V)} {m:List (List Key×Addr×Value)},KT H l m->∀x∈m,(tupleKind (yx P w)).is h x.1 x.2.1:=by
  intro l m q
  induction q with
  | nil=>intro x hx;exact nomatch hx
  | @cons p q ps qs hq t ih =>
   intro x hx
   rcases List.mem_cons.mp hx with e | hx
   ·subst e
    exact zdh ok (by rw[<-hq.1];exact hq.2.1)
   ·exact ih x hx
 exact all r x hx
theorem znE {kvs:List (List Key×V)}(ok:QT P w H h)(e:H a=some (.dT kvs)):kvs.length<=sizeLine/\(a==sysModules)=false /\
  ∃xs,KT H kvs xs/\h.DictOfH (tupleKind (yx P w)) a xs:=zha ok (.inl e)
end
def JL (H:Hp)(a:Addr)(y:V)(r:Option V):Prop :=
 (∃kvs k,Rd H a (.dK kvs)/\y=kV k/\r=ZD kvs k)\/∃kvs k b,Rd H a (.dT kvs)/\y=.ref b/\H b=some (.tup (k.map kV))/\r=ZD kvs k
def zhU (H:Hp)(a:Addr)(y v:V)(H':Hp):Prop :=
 (∃kvs k,H a=some (.dK kvs)/\y=kV k/\kvs.length<sizeLine/\H'=upd H a (.dK (putK kvs k v))) \/
 ∃kvs k b,H a=some (.dT kvs)/\y=.ref b/\H b=some (.tup (k.map kV))/\kvs.length<sizeLine/\H'=upd H a (.dT (putK kvs k v))
theorem JL.k {H:Hp}{a:Addr}{kvs:List (Key×V)}{k:Key}(e:H a=some (.dK kvs)):JL H a (kV k) (ZD kvs k):=.inl ⟨kvs,k,.inl e,rfl,rfl⟩
theorem zhU.k {H:Hp}{a:Addr}{kvs:List (Key×V)}{k:Key}{v:V}(e:H a=some (.dK kvs))(hl:kvs.length<sizeLine):zhU H a (kV k) v (upd H a (.dK (putK kvs k v))):=.inl ⟨kvs,k,e,rfl,hl,rfl⟩
section
variable {X:Cx}{pins:List (Addr×Obj)}{σ:St}{H:Hp}{s:Shared}{a:Addr}{y v:V}{u r:Value}{o:Option V}{A:Around}{E:Value->Shared->Prop}
theorem Inv.big (I:Inv X pins σ H s):sysModules<s.heap.objs.size:=by
 have h:mainGlobals<s.heap.objs.size:=(I.mod.glob.keeps I.bk).lt
 exact Nat.lt_trans (by decide) h
theorem zhV {Q:Value->Shared->Prop}(hu:A.units+1<cLine)(I:Inv X pins σ H s)(g:JL H a y (some v))(ry:RelV y u)(h:∀w' s',Inv X pins σ H s'->RelV v w'->Q w' s') :
  wpAny (model X.prog X.w) A (getItem (.ref a) u) Q E s:=by
 rcases g with ⟨kvs,k,e,ey,l⟩ | ⟨kvs,k,b,e,ey,eb,l⟩
 ·subst ey
  obtain⟨z,hd,vs,rel,dd⟩:=zg8 I.hok e
  obtain⟨w',hw,rw'⟩:=T9.some_of (v:=v) (o:=valueAt vs k) (by rw[l];exact rel.val k)
  exact wpAny_getItem_of (zaR ry) dd.mapOf hw (h w' _ (I.tok _) rw')
 ·subst ey
  cases (show u=Value.ref b from ry)
  obtain⟨z,hd,xs,rel,dd⟩:=zha I.hok e
  obtain⟨w',hw,rw'⟩:=T9.some_of (v:=v) (o:=(atKey xs k).map (·.2)) (by rw[l];exact rel.val k)
  obtain⟨p,hp,hp2⟩:=Option.map_eq_some_iff.mp hw
  refine wpAny_getItem_heap (tupleKind_room_in1 hu) (zdh I.hok eb) dd hp ?_
  rw[hp2]
  exact h w' _ (I.tok _) rw'
theorem zkE {Q:Value->Shared->Prop}(hu:A.units+1<cLine)(I:Inv X pins σ H s)(g:JL H a y o)(ry:RelV y u)(h:∀s',Inv X pins σ H s'->Q (.bool (!o.isSome)) s') :
  wpAny (model X.prog X.w) A (compareOp .NotIn u (.ref a)) Q E s:=by
 rcases g with ⟨kvs,k,e,ey,l⟩ | ⟨kvs,k,b,e,ey,eb,l⟩
 ·subst ey
  obtain⟨z,hd,vs,rel,dd⟩:=zg8 I.hok e
  refine wpAny_notIn_of (zaR ry) hd dd.mapOf ?_
  rw[<-(rel.val k).Qt,<-l]
  exact h _ (I.tok _)
 ·subst ey
  cases (show u=Value.ref b from ry)
  obtain⟨z,hd,xs,rel,dd⟩:=zha I.hok e
  refine wpAny_notIn_heap (tupleKind_room_in1 hu) (zdh I.hok eb) hd dd ?_
  have q:=(rel.val k).Qt
  rw[Option.isSome_map] at q
  rw[<-q,<-l]
  exact h _ (I.tok _)
theorem MK {h':Heap}{t':Nat}{ob:HO}(I:Inv X pins σ H s)(mu:Mut (H a))(hs:Heap.SameBut a s.heap h')(he:∃q,h'.get? a=some q)(new:xZ X.prog X.w (upd H a ob) h' a ob) :
  Inv X pins σ (upd H a ob) { s with heap:=h',toks:=t' } :=
 I.write (x:=a) (e:=a) mu (.inl rfl) (fun b q hb z=>(hs.2 b hb).trans z) he new
theorem zdi {P:Program}{w:World}{H':Hp}{h':Heap}{kvs:List (Key×V)}{vs:List (Key×Value)}(z:kvs.length<=sizeLine)(hd:(a==sysModules)=false)(rel:KV kvs vs)(dd:h'.DictOf (yx P w) a vs) :
  xZ P w H' h' a (.dK kvs):=⟨z,hd,vs,rel,dd⟩
theorem zhW {H':Hp}{Q:Unit->Shared->Prop}(hu:A.units+1<cLine)(I:Inv X pins σ H s)(g:zhU H a y v H')(ry:RelV y u)(rv:RelV v r)(h:∀s',Inv X pins σ H' s'->Q () s') :
  wpAny (model X.prog X.w) A (setItem (.ref a) u r) Q E s:=by
 rcases g with ⟨kvs,k,e,ey,l,eH⟩ | ⟨kvs,k,b,e,ey,eb,l,eH⟩
 ·subst ey eH
  obtain⟨z,hd,vs,rel,dd⟩:=zg9 I.hok e
  have hz:vs.length<=sizeLine:=by rw[<-rel.length];exact z
  have hl:(putK kvs k v).length<=sizeLine:=by have:=Vb kvs k v;omega
  refine wpAny_setItem_pairs (hsz:=hz) (zaR ry) dd fun h' dd' hs=>h _ ?_
  have he:∃q,h'.get? a=some q:=let ⟨q,_,_,hq,_⟩:=dd';⟨q,hq⟩
  exact MK I (by rw[e];exact True.intro) hs he (zdi hl hd (rel.put k rv) dd')
 ·subst ey eH
  cases (show u=Value.ref b from ry)
  obtain⟨z,hd,xs,rel,dd⟩:=znE I.hok e
  have hz:xs.length<=sizeLine:=by rw[<-Paired.length rel];exact z
  have hl:(putK kvs k v).length<=sizeLine:=by have:=Vb kvs k v;omega
  refine wpAny_setItem_heap (hsz:=hz) (tupleKind_room_in1 hu) (zdh I.hok eb) dd fun h' dd' hs=>h _ ?_
  obtain⟨q,es,ep,hq,h2,h3,h4,_,h5⟩:=dd'
  refine MK I (by rw[e];exact True.intro) hs ⟨q,hq⟩ ⟨hl,hd,_,(rel.put k eb rv).keeps fun c ys ec=>?_,q,es,ep,hq,h2,h3,h4,h5⟩
  rw[zG (Sd ec e (fun z=>nomatch z))]
  exact ec
end
section
variable {X:Cx}{pins:List (Addr×Obj)}{σ:St}{H:Hp}{s:Shared}{a:Addr}{kvs:List (Key×V)}{k:Key}{u:Value}{A:Around}{E:Value->Shared->Prop}
theorem zmR {Q:Unit->Shared->Prop}(I:Inv X pins σ H s)(e:H a=some (.dK kvs))(ry:RelV (kV k) u)(l:(ZD kvs k).isSome=true)(h:∀s',Inv X pins σ (upd H a (.dK (Jl kvs k))) s'->Q () s') :
  wpAny (model X.prog X.w) A (delItem (.ref a) u) Q E s:=by
 obtain⟨z,hd,vs,rel,dd⟩:=zg9 I.hok e
 refine wpAny_delItem_slot dd.typeIs (by decide) PySem.F.slot_dict_delitem
  (call_meetsIn PySem.F.slot_dict_delitem dd.typeIs PySem.F.entry_dict_delitem (PySem.F.args_dict_delitem_2 _ _) (meets_dict_delitem_pairs (yx X.prog X.w) a (zaR ry)) ⟨vs,dd,by rw[<-rel.length];exact z,by rw[<-(rel.val k).Qt];exact l,fun h' dd' hs=>h _ ?_⟩)
 have he:∃q,h'.get? a=some q:=let ⟨q,_,_,hq,_⟩:=dd';⟨q,hq⟩
 exact MK I (by rw[e];exact True.intro) hs he (zdi (zty (zeu kvs k) z) hd (rel.drop k) dd')
theorem znF {v:V}{more:List Value}{Q:Value->Shared->Prop}(I:Inv X pins σ H s)(e:H a=some (.dK kvs))(ry:RelV (kV k) u)(l:ZD kvs k=some v)(hm:more=[]\/∃x,more=[x])
  (h:∀w' s',Inv X pins σ (upd H a (.dK (Jl kvs k))) s'->RelV v w'->Q w' s'):wpAny (model X.prog X.w) A (call (.builtin "dict.pop") (.ref a::u::more)) Q E s:=by
 obtain⟨z,hd,vs,rel,dd⟩:=zg9 I.hok e
 obtain⟨w',hw,rw'⟩:=T9.some_of (v:=v) (o:=valueAt vs k) (by rw[<-l];exact rel.val k)
 have hp:(keyPart u).isSome=true:=by
  cases k with
  | inl i=>obtain⟨t,q⟩:=(show ∃t,u=Value.int i t from ry);subst q;rfl
  | inr x=>obtain⟨t,q⟩:=(show ∃t,u=Value.str x t from ry);subst q;rfl
 have ha:argsOk "dict.pop" ⟨.ref a::u::more,[]⟩:=by
  rcases hm with q | ⟨x,q⟩
  ·subst q;exact PySem.F.args_dict_pop_2 _ _
  ·subst q;exact PySem.F.args_dict_pop_3 _ _ _
 refine call_meetsIn PySem.F.slot_dict_pop dd.typeIs PySem.F.entry_dict_pop ha (meets_dict_pop_there (yx X.prog X.w) a (zaR ry) more hm hp)
  ⟨vs,w',dd,by rw[<-rel.length];exact z,hw,fun h' dd' hs=>h w' _ ?_ rw'⟩
 have he:∃q,h'.get? a=some q:=let ⟨q,_,_,hq,_⟩:=dd';⟨q,hq⟩
 exact MK I (by rw[e];exact True.intro) hs he (zdi (zty (zeu kvs k) z) hd (rel.drop k) dd')
end
def znG (i:Expr):Prop:=∀ov iv,subscripted i false ov iv=operate [ov,iv] (getItem ov iv)
theorem zkF {prog:Program}{w:World}{A:Around}{E:Value->Shared->Prop}{s:Shared}{env:Env}{value slice:Expr}{pos:Pos}{T id:String}{Q:Value->Shared->Prop}
  (hl:typeLookup (.type T) "__getitem__"=pure (some (.builtin id)))(hs:znG slice)
  (h:wpAny (model prog w) A (eval value env) (fun o s₁=>wpAny (model prog w) A (eval slice env) (fun i s₂=>s₂.TypeIs o T/\wpAny (model prog w) A (getItem o i) Q E s₂) E s₁) E s) :
  wpAny (model prog w) A (eval (.Subscript value slice pos) env) Q E s:=by
 refine Subscript_ (wpAny_mono h (fun o s₁ h₁=>wpAny_mono h₁ (fun i s₂ h₂=>?_) fun _ _ x=>x) fun _ _ x=>x)
 obtain⟨hT,h₂⟩:=h₂
 unfold subscriptTail
 refine wpAny_bind ?_
 rw[getitemInPython_of_ne hT.not_modules]
 refine wpAny_bind (wpAny_specialOf hT hl ?_)
 have fin:wpAny (model prog w) A (subscripted slice false o i) (fun r s₃=>wpAny (model prog w) A (letTemporaryGo value o r>>=fun _=>pure r) Q E s₃) E s₂:=by
  rw[hs o i]
  exact wpAny_operating (wpAny_mono h₂ (fun r s₃ h₃=>wpAny_bind (wpAny_letTemporaryGo (wpAny_pure h₃))) fun _ _ x=>x)
 first
  | exact wpAny_pure (wpAny_bind fin)
  | exact wpAny_bind (wpAny_pure (wpAny_bind fin))
  | exact wpAny_bind fin
theorem zew {X:Cx}{pins:List (Addr×Obj)}{σ:St}{H:Hp}{s:Shared}{a:Addr}{y:V}{o:Option V}(I:Inv X pins σ H s)(g:JL H a y o):s.TypeIs (.ref a) "dict" := by
 rcases g with ⟨kvs,k,e,_,_⟩ | ⟨kvs,k,b,e,_,_,_⟩
 ·obtain⟨_,_,vs,_,dd⟩:=zg8 I.hok e
  exact dd.typeIs
 ·obtain⟨_,_,xs,_,dd⟩:=zha I.hok e
  exact dd.typeIs
def znH (td ty:TE):TE:=fun σ H Q=>td σ H fun x H1=>ty σ H1 fun y H2=>∃a v,x=.ref a/\JL H2 a y (some v)/\Q v H2
def zkG (ty td:TE):TE:=fun σ H Q=>ty σ H fun y H1=>td σ H1 fun x H2=>∃a o,x=.ref a/\JL H2 a y o/\Q (.bl (!o.isSome)) H2
def znI (td ty tv:TE):TS:=fun D σ H=>tv σ H fun v H1=>td σ H1 fun x H2=>ty σ H2 fun y H3=>∃a H4,x=.ref a/\zhU H3 a y v H4/\D.nx σ H4
section
variable {X:Cx}{o i e value:Expr}{pos pos' tpos:Pos}{td ty tv:TE}
theorem zdj (hu:X.A.units+1<cLine)(ho:PE X o td)(hi:PE X i ty)(hs:znG i):PE X (.Subscript o i pos) (znH td ty):=by
 intro pins s σ H Q I h
 refine zkF PySem.F.slot_dict_getitem.lookup hs (wD (ho pins s σ H _ I h) fun u s1 ⟨x,H1,I1,rx,q1⟩=>wD (hi pins s1 σ H1 _ I1 q1) fun iv s2 ⟨y,H2,I2,ry,a,v,ex,g,q2⟩=>?_)
 subst ex
 obtain rfl:u=Value.ref a:=rx
 exact⟨zew I2 g,zhV hu I2 g ry fun w' s3 I3 rw'=>⟨v,H2,I3,rw',q2⟩⟩
theorem zhX (hu:X.A.units+1<cLine)(hi:PE X i ty)(ho:PE X o td):PC X .NotIn i o (zkG ty td):=by
 intro pins s σ H Q I h
 refine wD (hi pins s σ H _ I h) fun iv s1 ⟨y,H1,I1,ry,q1⟩=>wD (ho pins s1 σ H1 _ I1 q1) fun u s2 ⟨x,H2,I2,rx,a,ov,ex,g,q2⟩=>?_
 subst ex
 obtain rfl:u=Value.ref a:=rx
 exact zkE hu I2 g ry fun s3 I3=>⟨.bl (!ov.isSome),H2,I3,rfl,q2⟩
theorem zhb (hu:X.A.units+1<cLine)(ho:PE X o td)(hi:PE X i ty)(hv:PE X value tv)(hs:swapsWith value (some (.Subscript o i pos')) pos.line X.env=pure false) :
  PS X (.Assign [.Subscript o i pos'] value pos) (znI td ty tv):=by
 intro pins s σ H D I h
 refine wpAny_Assign_Subscript (wD (hv pins s σ H _ I h) fun r s1 ⟨v,H1,I1,rv,q1⟩=>wD (ho pins s1 σ H1 _ I1 q1) fun u s2 ⟨x,H2,I2,rx,q2⟩=>wD (hi pins s2 σ H2 _ I2 q2) fun iv s3 ⟨y,H3,I3,ry,a,H4,ex,g,q3⟩=>?_) hs
 subst ex
 obtain rfl:u=Value.ref a:=rx
 exact zhW hu I3 g ry rv fun s4 I4=>⟨σ,H4,I4,q3⟩
end
theorem zex {P:Program}{w:World}{H:Hp}(h:Heap)(hb:sysModules<h.objs.size):xZ P w H (h.push { cls:=.type "dict", data:=.dict #[] }) h.objs.size (.dK []) :=
 ⟨ztz _,beq_eq_false_iff_ne.mpr (Ne.symm (ztr hb)),[],.nil,Heap.DictOf.new h⟩
def zms:TE:=fun _ H Q=>∀p,H p=none->Q (.ref p) (upd H p (.dK []))
section
variable {X:Cx}{pos:Pos}
theorem zi8:PE X (.Dict [] [] pos) zms:=fun pins s σ H Q I h =>
 wpAny_Dict_empty ⟨.ref s.heap.objs.size,_,I.laid (a:=s.heap.objs.size) (o:=.dK []) (t':=s.toks) (fun _ _ q=>zti _ q) (zts _) (zex s.heap I.big),rfl,h _ (I.hok.fresh (zts _))⟩
end
def zf3:List (TE×TE)->St->Hp->(List (V×V)->Hp->Prop)->Prop
 | [],_,H,Q=>Q [] H
 | (tk,tv)::r,σ,H,Q=>tk σ H fun x H1=>tv σ H1 fun y H2=>zf3 r σ H2 fun ps H3=>Q ((x,y)::ps) H3
abbrev VV:List (V×V)->List (Value×Value)->Prop:=Paired fun p q=>RelV p.1 q.1/\RelV p.2 q.2
def PPs (X:Cx)(pos:Pos)(keys:List (Option Expr))(values:List Expr)(trs:List (TE×TE)):Prop :=
 ∀(pins:List (Addr×Obj)) (s:Shared) (σ:St) (H:Hp) (Q:List (V×V)->Hp->Prop),Inv X pins σ H s->zf3 trs σ H Q ->
  wpAny (model X.prog X.w) X.A (evalPairs (pairTrees keys values X.env pos)) (fun vs s'=>∃ps H',Inv X pins σ H' s'/\VV ps vs/\Q ps H') X.xe s
theorem zhc {X:Cx}{pos:Pos}:PPs X pos [] [] []:=fun pins s σ H Q I h=>pairTrees_nil_walk ⟨[],H,I,.nil,h⟩
theorem V7 {X:Cx}{pos:Pos}{k v:Expr}{ks:List (Option Expr)}{vs:List Expr}{tk tv:TE}{trs:List (TE×TE)}(hk:PE X k tk)(hv:PE X v tv)(hr:PPs X pos ks vs trs) :
  PPs X pos (some k::ks) (v::vs) ((tk,tv)::trs):=fun pins s σ H Q I h =>
 pairTrees_cons_walk (wD (hk pins s σ H _ I h) fun u s1 ⟨x,H1,I1,rx,q1⟩=>wD (hv pins s1 σ H1 _ I1 q1) fun w2 s2 ⟨y,H2,I2,ry,q2⟩ =>
  wD (hr pins s2 σ H2 _ I2 q2) fun ws s3 ⟨ps,H3,I3,rel,q3⟩=>⟨(x,y)::ps,H3,I3,.cons ⟨rx,ry⟩ rel,q3⟩)
def Yw (kvs more:List (Key×V)):List (Key×V):=more.foldl (fun acc kv=>putK acc kv.1 kv.2) kvs
theorem KV.merge:∀{more:List (Key×V)} {rs:List (Key×Value)} {kvs:List (Key×V)} {vs:List (Key×Value)},KV more rs->KV kvs vs->KV (Yw kvs more) (merged vs rs):=by
 intro more rs kvs vs r
 unfold KV at r
 induction r generalizing kvs vs with
 | nil=>intro q;exact q
 | @cons p q ps qs h t ih =>
  intro r0
  have e:KV (putK kvs p.1 p.2) (stored vs q.1 q.2):=by
   have:=r0.put p.1 h.2
   rw[<-h.1];exact this
  exact ih e
theorem Q9:∀(more kvs:List (Key×V)),(Yw kvs more).length<=kvs.length+more.length
 | [],kvs=>by show kvs.length<=kvs.length+0;omega
 | p::r,kvs=>by
  have h1:=Q9 r (putK kvs p.1 p.2)
  have h2:=Vb kvs p.1 p.2
  show(Yw (putK kvs p.1 p.2) r).length<=_
  rw[zto];omega
theorem zaS {P:Program}{w:World}:∀{kvs:List (Key×V)} {ws:List (Value×Value)},VV (kvs.map fun kv=>(kV kv.1,kv.2)) ws->∃rs,Carries (yx P w) ws rs/\KV kvs rs
 | [],_,r=>by rw[List.map_nil] at r;cases r;exact⟨[],True.intro,.nil⟩
 | p::kvs,_,r=>by
  rw[ztB] at r
  cases r with
  | @cons a b as bs h t =>
   obtain⟨rs,c,q⟩:=zaS (P:=P) (w:=w) t
   obtain⟨b1,b2⟩:=b
   exact⟨(p.1,b2)::rs,⟨zaR h.1,rfl,c⟩,.cons ⟨rfl,h.2⟩ q⟩
def znJ (trs:List (TE×TE)):TE:=fun σ H Q=>∀p,H p=none->zf3 trs σ (upd H p (.dK [])) fun ps H2=>H2 p=some (.dK [])/\∃kvs:List (Key×V),ps=kvs.map (fun kv=>(kV kv.1,kv.2))/\kvs.length<=15/\Q (.ref p) (upd H2 p (.dK (Yw [] kvs)))
theorem zhd {X:Cx}{pos:Pos}{keys:List (Option Expr)}{values:List Expr}{trs:List (TE×TE)}(h:PPs X pos keys values trs)(hall:keys.all (·.isSome)=true)(hl:keys.length=values.length)(h0:keys≠[])
  (h15:keys.length<=15):PE X (.Dict keys values pos) (znJ trs):=by
 intro pins s σ H Q I q
 have hn:=I.hok.fresh (zts s.heap.objs.size)
 have I1:=I.laid (a:=s.heap.objs.size) (o:=.dK []) (h':=s.heap.push { cls:=.type "dict", data:=.dict #[] }) (t':=s.toks) (fun _ _ q=>zti _ q) (zts _) (zex s.heap I.big)
 refine wpAny_Dict_walk (knd:=yx X.prog X.w) hall hl h0 h15 (wD (h pins _ σ _ _ I1 (q _ hn)) fun ws s2 ⟨ps,H2,I2,rel,e,kvs,ep,lk,q2⟩=>?_)
 subst ep
 obtain⟨rs,c,rk⟩:=zaS (P:=X.prog) (w:=X.w) rel
 obtain⟨z,hd,vs0,r0,dd⟩:=zg9 I2.hok e
 cases r0
 refine⟨rs,c,dd,fun h' dd' hs=>⟨.ref s.heap.objs.size,_,?_,rfl,q2⟩⟩
 have hz:(Yw [] kvs).length<=sizeLine:=by
  have h1:=Q9 kvs []
  rw[List.length_nil] at h1
  rw[sizeLine_eq];omega
 have he:∃q,h'.get? s.heap.objs.size=some q:=let ⟨q,_,_,hq,_⟩:=dd';⟨q,hq⟩
 exact MK I2 (by rw[e];exact True.intro) hs he (zdi hz hd (rk.merge .nil) dd')
inductive S7 (K:Frag)(H:Hp):Nat->V->V->Bool->Prop
 | flat {n:Nat} {x y:V} (fx:wC x=true) (fy:wC y=true):S7 K H n x y (eqV x y)
 | tt {n:Nat} {p q:Addr} {xs ys:List V} {e:Nat->Bool} (hp:wY K H p xs) (hq:wY K H q ys) (h:∀(j:Nat) x y,xs[j]?=some x->ys[j]?=some y->S7 K H n x y (e j)) :
   S7 K H (n+1) (.ref p) (.ref q) ((List.range (min xs.length ys.length)).all e&&xs.length==ys.length)
 | ll {n:Nat} {p q:Addr} {xs ys:List V} {e:Nat->Bool} (hp:zP K H p xs) (hq:zP K H q ys) (hl:xs.length=ys.length) (h:∀(j:Nat) x y,xs[j]?=some x->ys[j]?=some y->S7 K H n x y (e j)) :
   S7 K H (n+1) (.ref p) (.ref q) ((List.range xs.length).all e)
 | ln {n:Nat} {p q:Addr} {xs ys:List V} (hp:zP K H p xs) (hq:zP K H q ys) (hl:xs.length≠ys.length):S7 K H (n+1) (.ref p) (.ref q) false
 | lt {n:Nat} {p q:Addr} {xs ys:List V} (hp:zP K H p xs) (hq:wY K H q ys):S7 K H (n+1) (.ref p) (.ref q) false
 | tl {n:Nat} {p q:Addr} {xs ys:List V} (hp:wY K H p xs) (hq:zP K H q ys):S7 K H (n+1) (.ref p) (.ref q) false
 | lf {n:Nat} {p:Addr} {xs:List V} {y:V} (hp:zP K H p xs) (fy:wC y=true):S7 K H (n+1) (.ref p) y false
 | fl {n:Nat} {p:Addr} {xs:List V} {y:V} (hp:zP K H p xs) (fy:wC y=true):S7 K H (n+1) y (.ref p) false
 | tf {n:Nat} {p:Addr} {xs:List V} {y:V} (hp:wY K H p xs) (fy:wC y=true):S7 K H (n+1) (.ref p) y false
 | ft {n:Nat} {p:Addr} {xs:List V} {y:V} (hp:wY K H p xs) (fy:wC y=true):S7 K H (n+1) y (.ref p) false
section
variable {X:Cx}{pins:List (Addr×Obj)}{σ:St}{H:Hp}{s:Shared}
theorem zey {x:V}(f:wC x=true):eqV x x=true:=by
 cases x<;>first | rfl | (simp[eqV];done) | exact absurd (show false=true from f) ztg
theorem Ra (I:Inv X pins σ H s){p:Addr}{xs ys:List V}(h:zP X.K H p xs)(k:wY X.K H p ys):False:=by
 obtain⟨_,_,⟨o,n,e,c,_⟩,_⟩:=I.list h
 obtain⟨_,_,⟨o',e',c',_⟩,_⟩:=I.tuple k
 rw[e] at e'
 cases e'
 rw[c] at c'
 injection c' with z
 exact absurd z (by decide)
theorem S7.refl (I:Inv X pins σ H s){n:Nat}{x y:V}{b:Bool}(h:S7 X.K H n x y b):x=y->b=true:=by
 induction h with
 | flat fx fy=>intro e;subst e;exact zey fx
 | tt hp hq h ih =>
  intro e
  cases e
  have ee:=I.zb7 hp hq
  subst ee
  rw[Nat.min_self,beq_self_eq_true,Bool.and_true,ztG]
  intro j hj
  have hj':=List.mem_range.mp hj
  exact ih j _ _ (ztd hj') (ztd hj') rfl
 | ll hp hq hl h ih =>
  intro e
  cases e
  have ee:=I.Wf hp hq
  subst ee
  rw[ztG]
  intro j hj
  have hj':=List.mem_range.mp hj
  exact ih j _ _ (ztd hj') (ztd hj') rfl
 | ln hp hq hl =>
  intro e
  cases e
  exact absurd (congrArg List.length (I.Wf hp hq)) hl
 | lt hp hq=>intro e;cases e;exact(Ra I hp hq).elim
 | tl hp hq=>intro e;cases e;exact(Ra I hq hp).elim
 | lf hp fy=>intro e;subst e;exact absurd (show false=true from fy) ztg
 | fl hp fy=>intro e;subst e;exact absurd (show false=true from fy) ztg
 | tf hp fy=>intro e;subst e;exact absurd (show false=true from fy) ztg
 | ft hp fy=>intro e;subst e;exact absurd (show false=true from fy) ztg
theorem Qu {A:Around}{u:Value}{y:V}{p:Addr}{its:Array Value}(hl:s.heap.IsList p its)(fy:wC y=true)(ry:RelV y u)(hu:A.units<cLine):SeqAt.RcAt A s (.ref p) u false/\SeqAt.EqAt A s (.ref p) u false/\SeqAt.RcAt A s u (.ref p) false/\SeqAt.EqAt A s u (.ref p) false/\SeqAt.RcNeAt A s (.ref p) u true/\SeqAt.RcNeAt A s u (.ref p) true:=by
 cases y with
 | non=>cases ry;exact⟨.list_none hl hu,.list_none hl hu,.none_list hl hu,.none_list hl hu,.list_none hl hu,.none_list hl hu⟩
 | bl b=>cases ry;exact⟨.list_bool b hl hu,.list_bool b hl hu,.bool_list b hl hu,.bool_list b hl hu,.list_bool b hl hu,.bool_list b hl hu⟩
 | int i=>obtain⟨t,rfl⟩:=ry;exact⟨.list_int i t hl hu,.list_int i t hl hu,.int_list i t hl hu,.int_list i t hl hu,.list_int i t hl hu,.int_list i t hl hu⟩
 | str i=>obtain⟨t,rfl⟩:=ry;exact⟨.list_str i t hl hu,.list_str i t hl hu,.str_list i t hl hu,.str_list i t hl hu,.list_str i t hl hu,.str_list i t hl hu⟩
 | _=>exact absurd (show false=true from fy) ztg
theorem UW {A:Around}{u:Value}{y:V}{p:Addr}{its:Array Value}(hl:s.heap.IsTuple p its)(fy:wC y=true)(ry:RelV y u)(hu:A.units<cLine):SeqAt.RcAt A s (.ref p) u false/\SeqAt.EqAt A s (.ref p) u false/\SeqAt.RcAt A s u (.ref p) false/\SeqAt.EqAt A s u (.ref p) false/\SeqAt.RcNeAt A s (.ref p) u true/\SeqAt.RcNeAt A s u (.ref p) true:=by
 cases y with
 | non=>cases ry;exact⟨.tuple_none hl hu,.tuple_none hl hu,.none_tuple hl hu,.none_tuple hl hu,.tuple_none hl hu,.none_tuple hl hu⟩
 | bl b=>cases ry;exact⟨.tuple_bool b hl hu,.tuple_bool b hl hu,.bool_tuple b hl hu,.bool_tuple b hl hu,.tuple_bool b hl hu,.bool_tuple b hl hu⟩
 | int i=>obtain⟨t,rfl⟩:=ry;exact⟨.tuple_int i t hl hu,.tuple_int i t hl hu,.int_tuple i t hl hu,.int_tuple i t hl hu,.tuple_int i t hl hu,.int_tuple i t hl hu⟩
 | str i=>obtain⟨t,rfl⟩:=ry;exact⟨.tuple_str i t hl hu,.tuple_str i t hl hu,.str_tuple i t hl hu,.str_tuple i t hl hu,.tuple_str i t hl hu,.str_tuple i t hl hu⟩
 | _=>exact absurd (show false=true from fy) ztg
theorem item_at {xs:List V}{us:List Value}(r:Vals xs us){j:Nat}(h:j<us.toArray.size):∃x,xs[j]?=some x/\RelV x us.toArray[j]:=by
 have hl:=r.length
 have hj:j<xs.length:=by simp at h;omega
 obtain⟨u,hu,ru⟩:=r.get (ztd hj)
 refine⟨xs[j],ztd hj,?_⟩
 have e:us.toArray[j]=u:=by
  have:=(ztf.mp hu).2
  simpa using this
 rw[e];exact ru
theorem S7.at {n:Nat}{x y:V}{b:Bool}(h:S7 X.K H n x y b)(I:Inv X pins σ H s):∀{A:Around} {u v:Value},RelV x u->RelV y v->A.units+n<cLine->SeqAt.EqAt A s u v b:=by
 induction h with
 | flat fx fy=>intro A u v rx ry _;exact ziC rx ry fx fy
 | @tt n p q xs ys e hp hq h ih =>
  intro A u v rx ry hu
  cases rx
  cases ry
  obtain⟨us,r1,t1,_⟩:=I.tuple hp
  obtain⟨ws,r2,t2,_⟩:=I.tuple hq
  have l1:=r1.length
  have l2:=r2.length
  by_cases hne:p=q
  ·subst hne
   have z:=(S7.tt hp hq h).refl I rfl
   rw[z]
   exact SeqAt.EqAt.same _
  ·refine SeqAt.EqAt.of_refs hne ?_
   have z:=SeqAt.RcAt.tuples (A:=A) (e:=e) t1 t2 (by omega) fun j h1 h2=>by
    obtain⟨x,hx,rx⟩:=item_at r1 h1
    obtain⟨y,hy,ry⟩:=item_at r2 h2
    exact ih j x y hx hy rx ry (by show A.units+1+n<cLine;omega)
   rw[ztm,ztm,<-l1,<-l2] at z
   exact z
 | @ll n p q xs ys e hp hq hl h ih =>
  intro A u v rx ry hu
  cases rx
  cases ry
  obtain⟨us,r1,t1,_⟩:=I.list hp
  obtain⟨ws,r2,t2,_⟩:=I.list hq
  have l1:=r1.length
  have l2:=r2.length
  by_cases hne:p=q
  ·subst hne
   have z:=(S7.ll hp hq hl h).refl I rfl
   rw[z]
   exact SeqAt.EqAt.same _
  ·refine SeqAt.EqAt.of_refs hne ?_
   have z:=SeqAt.RcAt.lists (A:=A) (e:=e) t1.isList t2.isList (by simp;omega) (by omega) fun j h1 h2=>by
    obtain⟨x,hx,rx⟩:=item_at r1 h1
    obtain⟨y,hy,ry⟩:=item_at r2 h2
    exact ih j x y hx hy rx ry (by show A.units+1+n<cLine;omega)
   rw[ztm,<-l1] at z
   exact z
 | @ln n p q xs ys hp hq hl =>
  intro A u v rx ry hu
  cases rx
  cases ry
  obtain⟨us,r1,t1,_⟩:=I.list hp
  obtain⟨ws,r2,t2,_⟩:=I.list hq
  have l1:=r1.length
  have l2:=r2.length
  have hne:p≠q:=fun e=>by subst e;exact hl (congrArg List.length (I.Wf hp hq))
  exact SeqAt.EqAt.of_refs hne (SeqAt.RcAt.lists_lengths t1.isList t2.isList (by simp;omega) (by omega))
 | lt hp hq =>
  intro A u v rx ry hu
  cases rx
  cases ry
  obtain⟨us,r1,t1,_⟩:=I.list hp
  obtain⟨ws,r2,t2,_⟩:=I.tuple hq
  exact SeqAt.EqAt.list_tuple t1.isList t2 (by omega)
 | tl hp hq =>
  intro A u v rx ry hu
  cases rx
  cases ry
  obtain⟨us,r1,t1,_⟩:=I.tuple hp
  obtain⟨ws,r2,t2,_⟩:=I.list hq
  exact SeqAt.EqAt.tuple_list t1 t2.isList (by omega)
 | lf hp fy =>
  intro A u v rx ry hu
  cases rx
  obtain⟨us,r1,t1,_⟩:=I.list hp
  exact(Qu t1.isList fy ry (by omega)).2.1
 | fl hp fy =>
  intro A u v rx ry hu
  cases ry
  obtain⟨us,r1,t1,_⟩:=I.list hp
  exact(Qu t1.isList fy rx (by omega)).2.2.2.1
 | tf hp fy =>
  intro A u v rx ry hu
  cases rx
  obtain⟨us,r1,t1,_⟩:=I.tuple hp
  exact(UW t1 fy ry (by omega)).2.1
 | ft hp fy =>
  intro A u v rx ry hu
  cases ry
  obtain⟨us,r1,t1,_⟩:=I.tuple hp
  exact(UW t1 fy rx (by omega)).2.2.2.1
theorem S7.rc {n:Nat}{x y:V}{b:Bool}(h:S7 X.K H n x y b)(I:Inv X pins σ H s)(hn:¬(wC x=true/\wC y=true)){A:Around}{u v:Value}(rx:RelV x u)(ry:RelV y v)(hu:A.units+n<cLine):SeqAt.RcAt A s u v b/\SeqAt.RcNeAt A s u v (!b):=by
 cases h with
 | flat fx fy=>exact absurd ⟨fx,fy⟩ hn
 | @tt n p q xs ys e hp hq h =>
  cases rx
  cases ry
  obtain⟨us,r1,t1,_⟩:=I.tuple hp
  obtain⟨ws,r2,t2,_⟩:=I.tuple hq
  have l1:=r1.length
  have l2:=r2.length
  have he:∀j (h1:j<us.toArray.size) (h2:j<ws.toArray.size),SeqAt.EqAt A.in1 s us.toArray[j] ws.toArray[j] (e j):=fun j h1 h2=>by
   obtain⟨x,hx,rx⟩:=item_at r1 h1
   obtain⟨y,hy,ry⟩:=item_at r2 h2
   exact(h j x y hx hy).at I rx ry (by show A.units+1+n<cLine;omega)
  have z:=SeqAt.RcAt.tuples (A:=A) (e:=e) t1 t2 (by omega) he
  have z2:=SeqAt.RcNeAt.tuples (A:=A) (e:=e) t1 t2 (by omega) he
  rw[ztm,ztm,<-l1,<-l2] at z z2
  exact⟨z,z2⟩
 | @ll n p q xs ys e hp hq hl h =>
  cases rx
  cases ry
  obtain⟨us,r1,t1,_⟩:=I.list hp
  obtain⟨ws,r2,t2,_⟩:=I.list hq
  have l1:=r1.length
  have l2:=r2.length
  have he:∀j (h1:j<us.toArray.size) (h2:j<ws.toArray.size),SeqAt.EqAt A.in1 s us.toArray[j] ws.toArray[j] (e j):=fun j h1 h2=>by
   obtain⟨x,hx,rx⟩:=item_at r1 h1
   obtain⟨y,hy,ry⟩:=item_at r2 h2
   exact(h j x y hx hy).at I rx ry (by show A.units+1+n<cLine;omega)
  have z:=SeqAt.RcAt.lists (A:=A) (e:=e) t1.isList t2.isList (by simp;omega) (by omega) he
  have z2:=SeqAt.RcNeAt.lists (A:=A) (e:=e) t1.isList t2.isList (by simp;omega) (by omega) he
  rw[ztm,<-l1] at z z2
  exact⟨z,z2⟩
 | @ln n p q xs ys hp hq hl =>
  cases rx
  cases ry
  obtain⟨us,r1,t1,_⟩:=I.list hp
  obtain⟨ws,r2,t2,_⟩:=I.list hq
  have l1:=r1.length
  have l2:=r2.length
  exact⟨SeqAt.RcAt.lists_lengths t1.isList t2.isList (by simp;omega) (by omega),SeqAt.RcNeAt.lists_lengths t1.isList t2.isList (by simp;omega) (by omega)⟩
 | lt hp hq =>
  cases rx
  cases ry
  obtain⟨us,r1,t1,_⟩:=I.list hp
  obtain⟨ws,r2,t2,_⟩:=I.tuple hq
  exact⟨SeqAt.RcAt.list_tuple t1.isList t2 (by omega),SeqAt.RcNeAt.list_tuple t1.isList t2 (by omega)⟩
 | tl hp hq =>
  cases rx
  cases ry
  obtain⟨us,r1,t1,_⟩:=I.tuple hp
  obtain⟨ws,r2,t2,_⟩:=I.list hq
  exact⟨SeqAt.RcAt.tuple_list t1 t2.isList (by omega),SeqAt.RcNeAt.tuple_list t1 t2.isList (by omega)⟩
 | lf hp fy =>
  cases rx
  obtain⟨us,r1,t1,_⟩:=I.list hp
  have z:=Qu (A:=A) t1.isList fy ry (by omega)
  exact⟨z.1,z.2.2.2.2.1⟩
 | fl hp fy =>
  cases ry
  obtain⟨us,r1,t1,_⟩:=I.list hp
  have z:=Qu (A:=A) t1.isList fy rx (by omega)
  exact⟨z.2.2.1,z.2.2.2.2.2⟩
 | tf hp fy =>
  cases rx
  obtain⟨us,r1,t1,_⟩:=I.tuple hp
  have z:=UW (A:=A) t1 fy ry (by omega)
  exact⟨z.1,z.2.2.2.2.1⟩
 | ft hp fy =>
  cases ry
  obtain⟨us,r1,t1,_⟩:=I.tuple hp
  have z:=UW (A:=A) t1 fy rx (by omega)
  exact⟨z.2.2.1,z.2.2.2.2.2⟩
end
section
variable {X:Cx}
theorem zmt {K:Frag}(hK:X.K=K)(hu:X.A.units+8<cLine):Uu X (compareOp .Eq) (fun x y H Q=>∃b,¬(wC x=true/\wC y=true)/\S7 K H 8 x y b/\Q (.bl b) H):=by
 subst hK
 intro pins s σ H x y v u Q I rx ry h
 obtain⟨b,hn,he,q⟩:=h
 exact(he.rc I hn rx ry hu).1 X.prog X.w X.xe _ ⟨.bl b,H,I,rfl,q⟩
theorem zmu {K:Frag}(hK:X.K=K)(hu:X.A.units+8<cLine):Uu X (compareOp .NotEq) (fun x y H Q=>∃b,¬(wC x=true/\wC y=true)/\S7 K H 8 x y b/\Q (.bl (!b)) H):=by
 subst hK
 intro pins s σ H x y v u Q I rx ry h
 obtain⟨b,hn,he,q⟩:=h
 exact(he.rc I hn rx ry hu).2 X.prog X.w X.xe _ ⟨.bl (!b),H,I,rfl,q⟩
theorem hu8 {A:Around}{k:Nat}(hr:Zn k A):A.units+8<cLine:=by have:=hr.units;omega
theorem zi9 {K:Frag}{H:Hp}{x:V}{n:Nat}{e:V->Bool}:∀{xs:List V} {us:List Value},Vals xs us->(∀y∈xs,S7 K H n y x (e y))->∃f:Value->Bool,(∀(i:Nat) y u,xs[i]?=some y->us[i]?=some u->f u=e y)/\us.any f=xs.any e:=by
 intro xs us r h
 refine⟨fun u=>match zbC u with | some y=>e y | none=>false,fun i y u hy hu=>?_,?_⟩
 ·obtain⟨u',hu',ru⟩:=r.get hy
  rw[hu] at hu'
  cases hu'
  show(match zbC u with | some y=>e y | none=>false)=e y
  rw[ru.abs]
 ·clear h
  induction r with
  | nil=>rfl
  | cons r t ih =>
   rw[List.any_cons,List.any_cons,ih]
   congr 1
   show(match zbC _ with | some y=>e y | none=>false)=_
   rw[r.abs]
def zpo (K:Frag)(neg:Bool):R2:=fun x y H Q=>∃(p:Addr) (xs:List V) (e:V->Bool),y=.ref p/\(zP K H p xs\/wY K H p xs)/\(∀z∈xs,S7 K H 8 z x (e z))/\Q (.bl (if neg then !xs.any e else xs.any e)) H
theorem zja {K:Frag}(hK:X.K=K)(hu:X.A.units+9<cLine):Uu X (compareOp .In) (zpo K false):=by
 subst hK
 intro pins s σ H x y v u Q I rx ry h
 obtain⟨p,xs,e,rfl,hq,he,q⟩:=h
 cases ry
 rcases hq with hq | hq
 ·obtain⟨us,r,pl,hz⟩:=I.list hq
  obtain⟨f,f1,f2⟩:=zi9 r he
  refine SeqAt.in_listAt f pl.isList (fun w hw=>?_) ⟨.bl _,H,I,rfl,?_⟩
  ·have hw':w∈us:=by simpa using hw
   obtain⟨i,hi,ew⟩:=ztU hw'
   have hx:i<xs.length:=by rw[r.length];exact hi
   have z:=f1 i xs[i] w (ztd hx) (by rw[ztd hi,ew])
   obtain⟨w',hw2,rw'⟩:=r.get (ztd hx)
   rw[ztd hi,ew] at hw2
   cases hw2
   rw[z]
   exact(he _ (ztT hx)).at I rw' rx (by show X.A.units+1+8<cLine;omega)
  ·rw[show us.toArray.any f=us.any f by simp,f2]
   exact q
 ·obtain⟨us,r,pl,hz⟩:=I.tuple hq
  obtain⟨f,f1,f2⟩:=zi9 r he
  refine SeqAt.in_tupleAt f pl (fun w hw=>?_) ⟨.bl _,H,I,rfl,?_⟩
  ·have hw':w∈us:=by simpa using hw
   obtain⟨i,hi,ew⟩:=ztU hw'
   have hx:i<xs.length:=by rw[r.length];exact hi
   have z:=f1 i xs[i] w (ztd hx) (by rw[ztd hi,ew])
   obtain⟨w',hw2,rw'⟩:=r.get (ztd hx)
   rw[ztd hi,ew] at hw2
   cases hw2
   rw[z]
   exact(he _ (ztT hx)).at I rw' rx (by show X.A.units+1+8<cLine;omega)
  ·rw[show us.toArray.any f=us.any f by simp,f2]
   exact q
theorem zaT:∀{xs:List V} {us:List Value},xs.length=us.length->(∀(j:Nat) u,us[j]?=some u->∃x,xs[j]?=some x/\RelV x u)->Vals xs us
 | [],[],_,_=>.nil
 | [],_::_,h,_=>by simp at h
 | _::_,[],h,_=>by simp at h
 | x::xs,u::us,hl,h=>by
  obtain⟨x',e,r⟩:=h 0 u rfl
  cases e
  refine .cons r (zaT (by simpa using hl) fun j v hv=>?_)
  obtain⟨y,e,r⟩:=h (j+1) v (by simpa using hv)
  exact⟨y,by simpa using e,r⟩
theorem Rb (hc:X.calm=true):ZK X (.type "list") (fun xs H Q=>∃(p:Addr) (kvs:List (Key×V)),xs=[.ref p]/\H p=some (.dK kvs)/\∀l,H l=none->Q (.ref l) (upd H l (.lst (kvs.map fun e=>kV e.1)))):=by
 intro pins s σ H xs us Q I r h
 obtain⟨p,kvs,rfl,hp,q⟩:=h
 obtain⟨u,rfl,rx⟩:=vals1 r
 cases rx
 obtain⟨hz,lo,vs,rv,hD⟩:=(show kvs.length<=sizeLine/\(p==sysModules)=false/\∃vs,KV kvs vs/\s.heap.DictOf (yx X.prog X.w) p vs from I.hok p _ hp)
 obtain⟨ep,hat⟩:=hD.dictAt
 have hl:kvs.length=vs.length:=Paired.length rv
 refine PySem.W.kdl_call (PySem.W.kdl_dict (knd:=yx X.prog X.w) (kvs:=vs) (ep:=ep) lo) (I.ok.hd hc) hat (by omega) fun h' tk acc c hk hS hacc=>?_
 refine⟨.ref s.heap.objs.size,_,I.laid (o:=.lst (kvs.map fun e=>kV e.1)) hk (zts _) ?_,rfl,q _ (I.hok.fresh (zts _))⟩
 refine⟨by rw[ztc];exact hz,acc.toList,c,?_,by simpa using hS⟩
 refine zaT (by rw[ztc];have:=hacc.1;simp;omega) fun j v hv=>?_
 obtain⟨k,x,hx,hkv⟩:=hacc.2 j v (by rw[<-Array.getElem?_toList];exact hv)
 obtain⟨y,hy,e1,_⟩:=Jj rv hx
 refine⟨kV y.1,by rw[zte,hy];rfl,?_⟩
 rw[e1]
 rcases xY (k:=k) (v:=v) hkv with ⟨i,t,rfl,rfl⟩ | ⟨z,t,rfl,rfl⟩
 ·exact⟨_,rfl⟩
 ·exact⟨_,rfl⟩
end
end L2
namespace yN
abbrev Rm:=Option (Nat×Nat×Nat)
def Kv (n:Nat)(rs:List Rm)(k:Nat):Nat:=match rs[k]? with
 | some (some (i,_,_))=>i
 | _=>n
structure Bk (n:Nat)(rs:List Rm):Prop where
 h0:rs[0]?=some none
 h1:rs[1]?=some none
 rm:∀k,2<=k->k<rs.length->∃i lo hi,rs[k]?=some (some (i,lo,hi))/\i<n/\lo<k/\hi<k/\lo≠hi/\i<Kv n rs lo/\i<Kv n rs hi
 uq:∀(k l:Nat) (x:Nat×Nat×Nat),rs[k]?=some (some x)->rs[l]?=some (some x)->k=l
abbrev Row:=Nat->Bool
def put (r:Row)(i:Nat)(v:Bool):Row:=fun j=>if j=i then v else r j
def lead (rs:List Rm)(r:Row):Nat->Nat->Nat
 | 0,k=>k
 | f+1,k=>match rs[k]? with
  | some (some (i,lo,hi))=>lead rs r f (if r i then hi else lo)
  | _=>k
theorem zcr {n:Nat}{rs:List Rm}(B:Bk n rs)(r:Row):∀(f g k:Nat),k<=f->k<=g->k<rs.length->lead rs r f k=lead rs r g k
 | 0,0,k,_,_,_=>rfl
 | 0,g+1,k,h,_,_=>by
  have e:k=0:=by omega
  subst e
  show 0=lead rs r (g+1) 0
  unfold lead
  rw[B.h0]
 | f+1,0,k,_,h,_=>by
  have e:k=0:=by omega
  subst e
  show lead rs r (f+1) 0=0
  unfold lead
  rw[B.h0]
 | f+1,g+1,k,hf,hg,hk=>by
  by_cases h2:2<=k
  ·obtain⟨i,lo,hi,e,_,hlo,hhi,_⟩:=B.rm k h2 hk
   unfold lead
   rw[e]
   show lead rs r f (if r i then hi else lo)=lead rs r g (if r i then hi else lo)
   refine zcr B r f g _ ?_ ?_ ?_<;>(split<;>omega)
  ·have:k=0\/k=1:=by omega
   rcases this with e | e<;>subst e<;>unfold lead
   ·rw[B.h0]
   ·rw[B.h1]
def yes (rs:List Rm)(k:Nat)(r:Row):Bool:=lead rs r k k==1
section
variable {n:Nat}{rs:List Rm}(B:Bk n rs)
include B
theorem len2:2<=rs.length:=by
 have:=(ztf.mp B.h1).1
 omega
theorem zjb (r:Row):yes rs 0 r=false:=rfl
theorem Qv (r:Row):yes rs 1 r=true:=by
 unfold yes lead
 rw[B.h1]
 rfl
theorem zhY {k i lo hi:Nat}(e:rs[k]?=some (some (i,lo,hi)))(r:Row):lead rs r k k=lead rs r (if r i then hi else lo) (if r i then hi else lo):=by
 have hk:=(ztf.mp e).1
 have k2:2<=k:=by
  by_cases h:2<=k
  ·exact h
  ·exfalso
   have:k=0\/k=1:=by omega
   rcases this with z | z<;>subst z
   ·rw[B.h0] at e;cases e
   ·rw[B.h1] at e;cases e
 obtain⟨i',lo',hi',e',_,hlo,hhi,_⟩:=B.rm k k2 hk
 rw[e] at e'
 cases e'
 obtain⟨m,rfl⟩:∃m,k=m+1:=⟨k-1,by omega⟩
 show(match rs[m+1]? with | some (some (i,lo,hi))=>lead rs r m (if r i then hi else lo) | _=>m+1)=_
 rw[e]
 show lead rs r m (if r i then hi else lo)=_
 refine zcr B r _ _ _ ?_ (zts _) ?_<;>(split<;>omega)
theorem Rf {k i lo hi:Nat}(e:rs[k]?=some (some (i,lo,hi)))(r:Row):yes rs k r=if r i then yes rs hi r else yes rs lo r:=by
 unfold yes
 rw[zhY B e r]
 split<;>rfl
theorem Rg {k i lo hi:Nat}(e:rs[k]?=some (some (i,lo,hi))):Kv n rs k=i:=by unfold Kv;rw[e]
theorem zf4:Kv n rs 0=n:=by unfold Kv;rw[B.h0]
theorem zdk:Kv n rs 1=n:=by unfold Kv;rw[B.h1]
theorem Qw:∀(m k:Nat),k<=m->k<rs.length->∀{r r':Row},(∀i,Kv n rs k<=i->i<n->r i=r' i)->yes rs k r=yes rs k r'
 | m,k,hm,hk,r,r',h=>by
  by_cases h2:2<=k
  ·obtain⟨i,lo,hi,e,hin,hlo,hhi,_,l1,l2⟩:=B.rm k h2 hk
   have lk:=Rg B e
   rw[Rf B e,Rf B e,h i (by omega) hin]
   match m,hm with
   | 0,hm=>omega
   | m+1,hm =>
    rw[Qw m hi (by omega) (by omega) fun j hj hjn=>h j (by omega) hjn,Qw m lo (by omega) (by omega) fun j hj hjn=>h j (by omega) hjn]
  ·have:k=0\/k=1:=by omega
   rcases this with z | z<;>subst z
   ·rfl
   ·rw[Qv B,Qv B]
theorem ZS {k i:Nat}(hk:k<rs.length)(h:i<Kv n rs k)(r:Row)(v:Bool):yes rs k (put r i v)=yes rs k r:=by
 refine Qw B k k (zts _) hk fun j hj _=>?_
 unfold put
 rw[if_neg (by omega)]
theorem U0 {k i lo hi:Nat}(e:rs[k]?=some (some (i,lo,hi)))(hk:k<rs.length)(r:Row):yes rs k (put r i false)=yes rs lo r/\yes rs k (put r i true)=yes rs hi r:=by
 have k2:2<=k:=by
  by_cases h:2<=k
  ·exact h
  ·exfalso
   have:k=0\/k=1:=by omega
   rcases this with z | z<;>subst z
   ·rw[B.h0] at e;cases e
   ·rw[B.h1] at e;cases e
 obtain⟨i',lo',hi',e',_,hlo,hhi,_,l1,l2⟩:=B.rm k k2 hk
 rw[e] at e'
 cases e'
 constructor
 ·rw[Rf B e]
  have z:put r i false i=false:=by unfold put;rw[if_pos rfl]
  rw[z,if_neg ztg]
  exact ZS B (by omega) l1 r false
 ·rw[Rf B e]
  have z:put r i true i=true:=by unfold put;rw[if_pos rfl]
  rw[z,if_pos rfl]
  exact ZS B (by omega) l2 r true
theorem Wi:∀(m k l:Nat),(k<=m/\l<=m)->k<rs.length->l<rs.length->(∀r,yes rs k r=yes rs l r)->k=l
 | m,k,l,hm,hk,hl,h=>by
  by_cases k2:2<=k
  ·obtain⟨i,lo,hi,e,hin,hlo,hhi,hne,l1,l2⟩:=B.rm k k2 hk
   by_cases l2':2<=l
   ·obtain⟨j,lo',hi',e',hjn,hlo',hhi',hne',l1',l2''⟩:=B.rm l l2' hl
    match m,hm with
    | 0,hm=>omega
    | m+1,hm =>
     rcases Nat.lt_trichotomy i j with q | q | q
     ·exfalso
      refine hne (Wi m lo hi (by omega) (by omega) (by omega) fun r=>?_)
      have z:=U0 B e hk r
      rw[<-z.1,<-z.2,h,h,ZS B hl (by rw[Rg B e'];exact q),ZS B hl (by rw[Rg B e'];exact q)]
     ·subst q
      have a1:lo=lo':=Wi m lo lo' (by omega) (by omega) (by omega) fun r=>by rw[<-(U0 B e hk r).1,<-(U0 B e' hl r).1,h]
      have a2:hi=hi':=Wi m hi hi' (by omega) (by omega) (by omega) fun r=>by rw[<-(U0 B e hk r).2,<-(U0 B e' hl r).2,h]
      subst a1 a2
      exact B.uq k l _ e e'
     ·exfalso
      refine hne' (Wi m lo' hi' (by omega) (by omega) (by omega) fun r=>?_)
      have z:=U0 B e' hl r
      rw[<-z.1,<-z.2,<-h,<-h,ZS B hk (by rw[Rg B e];exact q),ZS B hk (by rw[Rg B e];exact q)]
   ·exfalso
    match m,hm with
    | 0,hm=>omega
    | m+1,hm =>
     have ll:Kv n rs l=n:=by
      have:l=0\/l=1:=by omega
      rcases this with z | z<;>subst z
      ·exact zf4 B
      ·exact zdk B
     refine hne (Wi m lo hi (by omega) (by omega) (by omega) fun r=>?_)
     have z:=U0 B e hk r
     rw[<-z.1,<-z.2,h,h,ZS B hl (by omega),ZS B hl (by omega)]
  ·by_cases l2':2<=l
   ·exfalso
    obtain⟨j,lo',hi',e',hjn,hlo',hhi',hne',l1',l2''⟩:=B.rm l l2' hl
    match m,hm with
    | 0,hm=>omega
    | m+1,hm =>
     have ll:Kv n rs k=n:=by
      have:k=0\/k=1:=by omega
      rcases this with z | z<;>subst z
      ·exact zf4 B
      ·exact zdk B
     refine hne' (Wi m lo' hi' (by omega) (by omega) (by omega) fun r=>?_)
     have z:=U0 B e' hl r
     rw[<-z.1,<-z.2,<-h,<-h,ZS B hk (by omega),ZS B hk (by omega)]
   ·have a:k=0\/k=1:=by omega
    have b:l=0\/l=1:=by omega
    have z:=h fun _=>false
    rcases a with a | a<;>rcases b with b | b<;>subst a<;>subst b
    ·rfl
    ·rw[zjb B,Qv B] at z;cases z
    ·rw[zjb B,Qv B] at z;cases z
    ·rfl
end
theorem ZV {rs:List Rm}{x:Rm}{k:Nat}(h:k<rs.length):(rs++[x])[k]?=rs[k]?:=ztJ h
theorem Rh {n:Nat}{rs:List Rm}{x:Rm}{k:Nat}(h:k<rs.length):Kv n (rs++[x]) k=Kv n rs k:=by
 unfold Kv;rw[ZV h]
theorem Bk.snoc {n:Nat}{rs:List Rm}(B:Bk n rs){i lo hi:Nat}(hin:i<n)(hlo:lo<rs.length)(hhi:hi<rs.length)(hne:lo≠hi)(l1:i<Kv n rs lo)(l2:i<Kv n rs hi)(new:some (i,lo,hi)∉rs):Bk n (rs++[some (i,lo,hi)]) where
 h0:=by rw[ZV (by have:=len2 B;omega)];exact B.h0
 h1:=by rw[ZV (by have:=len2 B;omega)];exact B.h1
 rm:=fun k h2 hk=>by
  rw[ztk,ztK] at hk
  by_cases hlt:k<rs.length
  ·obtain⟨i',lo',hi',e,a1,a2,a3,a4,a5,a6⟩:=B.rm k h2 hlt
   exact⟨i',lo',hi',by rw[ZV hlt];exact e,a1,a2,a3,a4,by rw[Rh (by omega)];exact a5,by rw[Rh (by omega)];exact a6⟩
  ·have e:k=rs.length:=by omega
   subst e
   exact⟨i,lo,hi,by simp,hin,hlo,hhi,hne,by rw[Rh hlo];exact l1,by rw[Rh hhi];exact l2⟩
 uq:=fun k l x hk hl=>by
  have lk:=(ztf.mp hk).1
  have ll:=(ztf.mp hl).1
  rw[ztk,ztK] at lk ll
  have last:∀m,m=rs.length->(rs++[some (i,lo,hi)])[m]?=some (some x)->x=(i,lo,hi):=fun m hm h=>by
   subst hm
   simp at h
   exact h.symm
  by_cases h1:k<rs.length
  ·by_cases h2:l<rs.length
   ·rw[ZV h1] at hk
    rw[ZV h2] at hl
    exact B.uq k l x hk hl
   ·exfalso
    have e:=last l (by omega) hl
    subst e
    rw[ZV h1] at hk
    exact new (zth hk)
  ·by_cases h2:l<rs.length
   ·exfalso
    have e:=last k (by omega) hk
    subst e
    rw[ZV h2] at hl
    exact new (zth hl)
   ·omega
theorem zcs {n:Nat}{rs:List Rm}(B:Bk n rs){x:Rm}(r:Row):∀(f k:Nat),k<rs.length->lead (rs++[x]) r f k=lead rs r f k
 | 0,_,_=>rfl
 | f+1,k,hk=>by
  unfold lead
  rw[ZV hk]
  by_cases h2:2<=k
  ·obtain⟨i,lo,hi,e,_,hlo,hhi,_⟩:=B.rm k h2 hk
   rw[e]
   show lead (rs++[x]) r f (if r i then hi else lo)=lead rs r f (if r i then hi else lo)
   exact zcs B r f _ (by split<;>omega)
  ·have:k=0\/k=1:=by omega
   rcases this with z | z<;>subst z
   ·rw[B.h0]
   ·rw[B.h1]
theorem zez {n:Nat}{rs:List Rm}(B:Bk n rs){x:Rm}{k:Nat}(hk:k<rs.length)(r:Row):yes (rs++[x]) k r=yes rs k r:=by
 unfold yes;rw[zcs B r k k hk]
def uI (rs rs':List Rm):Prop:=∃xs,rs'=rs++xs
theorem uI.refl (rs:List Rm):uI rs rs:=⟨[],by simp⟩
theorem uI.trans {a b c:List Rm}(h:uI a b)(k:uI b c):uI a c:=by
 obtain⟨x,rfl⟩:=h
 obtain⟨y,rfl⟩:=k
 exact⟨x++y,by rw[List.append_assoc]⟩
theorem uI.len {a b:List Rm}(h:uI a b):a.length<=b.length:=by
 obtain⟨x,rfl⟩:=h
 rw[ztk];omega
theorem uI.get {a b:List Rm}(h:uI a b){k:Nat}(hk:k<a.length):b[k]?=a[k]?:=by
 obtain⟨x,rfl⟩:=h
 exact ztJ hk
theorem uI.snoc (rs:List Rm)(x:Rm):uI rs (rs++[x]):=⟨[x],rfl⟩
theorem uI.Kv {n:Nat}{a b:List Rm}(h:uI a b){k:Nat}(hk:k<a.length):Kv n b k=Kv n a k:=by
 unfold yN.Kv;rw[h.get hk]
theorem uI.lead {n:Nat}{a b:List Rm}(B:Bk n a)(h:uI a b)(r:Row):∀(f k:Nat),k<a.length->lead b r f k=lead a r f k
 | 0,_,_=>rfl
 | f+1,k,hk=>by
  unfold yN.lead
  rw[h.get hk]
  by_cases h2:2<=k
  ·obtain⟨i,lo,hi,e,_,hlo,hhi,_⟩:=B.rm k h2 hk
   rw[e]
   show yN.lead b r f (if r i then hi else lo)=yN.lead a r f (if r i then hi else lo)
   exact uI.lead B h r f _ (by split<;>omega)
  ·have:k=0\/k=1:=by omega
   rcases this with z | z<;>subst z
   ·rw[B.h0]
   ·rw[B.h1]
theorem uI.yes {n:Nat}{a b:List Rm}(B:Bk n a)(h:uI a b){k:Nat}(hk:k<a.length)(r:Row):yes b k r=yes a k r:=by
 unfold yN.yes;rw[uI.lead B h r k k hk]
end yN
namespace L2
theorem hu9 {A:PySem.Around}{k:Nat}(hr:Zn k A):A.units+9<PySem.cLine:=by have:=hr.units;omega
end L2
namespace xV
open PySem L2 yN
abbrev uZ:=Addr->Prop
def zmv (F:uZ)(H H':Hp):Prop:=∀x o,H x=some o->¬F x->H' x=some o
def zct:List Str:=["room", "size", "order", "enter", "worth_at", "below"]
structure zaU (C:Addr)(B:Hp->Addr->List Str->List Rm->uZ->Prop):Prop where
 ins:∀{H b os rs F},B H b os rs F->∃dx fs,H b=some (.ins C dx fs)/\∀m∈zct,fs.lookup m=none
 frame:∀{H H' b os rs F},B H b os rs F->(∀x o,H x=some o->F x->H' x=some o)->xr H H'->B H' b os rs F
 there:∀{H b os rs F x},B H b os rs F->F x->H x≠none
 bk:∀{H b os rs F},B H b os rs F->Bk os.length rs
 ord:∀{H b os rs F},B H b os rs F->Q8 os
theorem zaU.same {C:Addr}{B:Hp->Addr->List Str->List Rm->uZ->Prop}(L:zaU C B){H H':Hp}{b:Addr}{os:List Str}{rs:List Rm}{F:uZ}(h:B H b os rs F)(g:Same H H'):B H' b os rs F :=
 L.frame h (fun x o e _=>g x o e) (xr.of g)
def zmw (os:List Str)(r:Row):Str->Bool:=fun x=>r (ix os x)
section
variable (B:Hp->Addr->List Str->List Rm->uZ->Prop)(K:Frag)(C:Addr)
inductive Ng (vs:List V)(H:Hp)(Q:VK)(E9:XK):Prop
 | mk (b dx l:Addr) (os:List Str) (_:vs=[.ref b,.ref l]) (_:H b=some (.ins C dx [])) (_:b≠dx) (_:zP K H l (os.map V.str)) (_:Q8 os) (_:∀(H':Hp) (F:uZ),(∀x o,H x=some o->x≠b->H' x=some o)->B H' b os [none,none] F->(∀x,F x->x=b\/x=dx\/H x=none)->Q .non H'):Ng vs H Q E9
inductive uJ (vs:List V)(H:Hp)(Q:VK)(E9:XK):Prop
 | mk (b:Addr) (os:List Str) (rs:List Rm) (F:uZ) (_:vs=[.ref b]) (_:B H b os rs F) (_:∀(l:Addr) (H':Hp),Same H H'->H l=none->H' l=some (.lst (os.map V.str))->Q (.ref l) H'):uJ vs H Q E9
end
theorem znK {K:Frag}{H:Hp}{n:Nat}{p q:Addr}{xs ys:List V}(hp:zP K H p xs)(hq:zP K H q ys)(hl:xs.length=ys.length)(h:∀(j:Nat) x y,xs[j]?=some x->ys[j]?=some y->S7 K H n x y true):S7 K H (n+1) (.ref p) (.ref q) true:=by
 have z:=S7.ll (e:=fun _=>true) hp hq hl h
 have e:(List.range xs.length).all (fun _=>true)=true:=by simp
 rw[e] at z
 exact z
theorem zkI {K:Frag}{H:Hp}{n:Nat}{x:V}(f:wC x=true):S7 K H n x x true:=by
 have z:=S7.flat (K:=K) (H:=H) (n:=n) f f
 rw[zey f] at z
 exact z
theorem zeA {xs:List V}{n:Nat}:QV xs none (some (n:Int))=xs.take n:=by
 unfold QV
 rw[HT.zaC,HT.Qg,List.drop_zero,Nat.sub_zero]
 by_cases h:n<=xs.length
 ·rw[Nat.min_eq_left h]
 ·rw[Nat.min_eq_right (by omega),ztF,List.take_of_length_le (by omega)]
end xV
namespace yN
def Means (rs:List Rm)(k:Nat)(f:Row->Bool):Prop:=k<rs.length/\∀r,yes rs k r=f r
end yN
namespace L2
open PySem
theorem znL {X:Cx}{all rest:List Stmt}{D:Ends}{Tf:TS->TS}{Pre:St->Hp->Prop}(Mid:St->Hp->Prop)(h1:∀t,PSs X rest t->PSs X all (Tf t))(h:∀u:TS,(∀ σ H,Mid σ H->u D σ H)->∀ σ H,Pre σ H->Tf u D σ H)
  (hr:∃t,PSs X rest t/\∀ σ H,Mid σ H->t D σ H):∃t,PSs X all t/\∀ σ H,Pre σ H->t D σ H :=
 let ⟨t,a,b⟩:=hr
 ⟨Tf t,h1 t a,h t b⟩
theorem zpp {X:Cx}{all:List Stmt}{D:Ends}{σ:St}{H:Hp}(h:∃t,PSs X all t/\∀ σ' H',(σ'=σ/\H'=H)->t D σ' H'):∃t,PSs X all t/\t D σ H :=
 let ⟨t,a,b⟩:=h
 ⟨t,a,b _ _ ⟨rfl,rfl⟩⟩
end L2
namespace yN
open xV
def JM (b:Nat):Row:=fun i=>b.testBit i
def bits (r:Row):Nat->Nat
 | 0=>0
 | n+1=>if r n then bits r n+2^n else bits r n
theorem Zh (r:Row):∀n,bits r n<2^n
 | 0=>Nat.zero_lt_one
 | n+1=>by
  have ih:=Zh r n
  unfold bits
  rw[Nat.pow_succ]
  split<;>omega
theorem Xe (r:Row):∀{n i:Nat},i<n->(bits r n).testBit i=r i
 | 0,i,h=>by omega
 | n+1,i,h=>by
  have lt:=Zh r n
  have z:(bits r n).testBit n=false:=Nat.testBit_lt_two_pow lt
  unfold bits
  by_cases e:i=n
  ·subst e
   cases hr:r i
   ·rw[if_neg ztg];exact z
   ·rw[if_pos rfl,vI,z];rfl
  ·have hi:i<n:=by omega
   split
   ·rw[Ql hi];exact Xe r hi
   ·exact Xe r hi
theorem ZW {n a b:Nat}(ha:a<2^n)(hb:b<2^n)(h:∀i,i<n->a.testBit i=b.testBit i):a=b :=
 Nat.eq_of_testBit_eq fun i=>by
  by_cases hi:i<n
  ·exact h i hi
  ·have:2^n<=2^i:=ztI (by decide) (by omega)
   rw[Nat.testBit_lt_two_pow (by omega),Nat.testBit_lt_two_pow (by omega)]
theorem zeB {r:Row}{n i:Nat}(hi:i<n)(v:Bool):bits (put r i v) n=zQ (bits r n) i v:=by
 refine ZW (Zh _ _) (zW (Zh _ _) hi) fun j hj=>?_
 rw[Xe _ hj,zU,Xe _ hj]
 rfl
theorem Qx {n b:Nat}(h:b<2^n):bits (JM b) n=b:=ZW (Zh _ _) h fun i hi=>by rw[Xe _ hi];rfl
theorem zjc {n:Nat}{rs:List Rm}(B:Bk n rs){k:Nat}(hk:k<rs.length)(r:Row):yes rs k (JM (bits r n))=yes rs k r :=
 Qw B k k (zts _) hk fun i _ hi=>Xe r hi
theorem Vc {n N M:Nat}{f g:Nat->Bool}(h:z9 n N f)(k:z9 n M g)(e:∀b,b<2^n->f b=g b):N=M :=
 Nat.eq_of_testBit_eq fun i=>by
  rw[h i,k i]
  by_cases hi:i<2^n
  ·rw[e i hi]
  ·rw[decide_eq_false hi];rfl
theorem ZX {n N:Nat}{f:Nat->Bool}(h:z9 n N f){b:Nat}(hb:b<2^n):N.testBit b=f b:=by rw[h b,decide_eq_true hb];rfl
def Free (n:Nat)(f:Nat->Bool)(p:Nat):Prop:=∀b,b<2^n->∀v,f (zQ b p v)=f b
theorem yL (b p:Nat):zQ b p (b.testBit p)=b:=by unfold zQ;rw[if_pos rfl]
theorem Free.zkJ {n p:Nat}{f:Nat->Bool}(h:∀b,b<2^n->f (zQ b p (!b.testBit p))=f b):Free n f p:=fun b hb v=>by
 by_cases e:v=b.testBit p
 ·rw[e,yL]
 ·have:v=!b.testBit p:=by cases v<;>cases hh:b.testBit p<;>simp_all
  rw[this];exact h b hb
theorem YM {n:Nat}{f:Nat->Bool}(h:∀p,p<n->Free n f p):∀b,b<2^n->f b=f 0:=by
 have key:∀m b,m<=n->b<2^n->(∀i,m<=i->i<n->b.testBit i=false)->f b=f 0:=by
  intro m
  induction m with
  | zero =>
   intro b _ hb hz
   have:b=0:=ZW hb (Nat.two_pow_pos n) fun i hi=>by rw[hz i (ztz _) hi,Nat.zero_testBit]
   rw[this]
  | succ m ih =>
   intro b hm hb hz
   rw[<-h m (by omega) b hb false]
   refine ih _ (by omega) (zW hb (by omega)) fun i hi hin=>?_
   rw[zU]
   by_cases e:i=m
   ·rw[if_pos e]
   ·rw[if_neg e];exact hz i (by omega) hin
 exact fun b hb=>key n b (zts _) hb fun i hi hin=>by omega
theorem zmx {n:Nat}{rs:List Rm}(B:Bk n rs){k p:Nat}(hk:k<rs.length)(hp:p<n)(h:∀i,i<=p->∀r v,yes rs k (put r i v)=yes rs k r):p<Kv n rs k:=by
 by_cases k2:2<=k
 ·obtain⟨i,lo,hi,e,hin,hlo,hhi,hne,l1,l2⟩:=B.rm k k2 hk
  rw[Rg B e]
  by_cases hip:i<=p
  ·exfalso
   refine hne (Wi B (max lo hi) lo hi ⟨Nat.le_max_left _ _,Nat.le_max_right _ _⟩ (by omega) (by omega) fun r=>?_)
   have z:=U0 B e hk r
   rw[<-z.1,<-z.2,h i hip,h i hip]
  ·omega
 ·have:k=0\/k=1:=by omega
  rcases this with z | z<;>subst z
  ·rw[zf4 B];exact hp
  ·rw[zdk B];exact hp
theorem zjd {n m p k0 k1:Nat}{rs:List Rm}{f:Nat->Bool}(B:Bk n rs)(hp:p<n)(m0:k0<rs.length)(m1:k1<rs.length)
  (y0:∀r,yes rs k0 r=f (zQ (bits r n) p false))(y1:∀r,yes rs k1 r=f (zQ (bits r n) p true))(fr:∀i,i<p->Free n f i)
  (dep:∃b,b<2^n/\f (zQ b p false)≠f (zQ b p true))(old:∀j,j<m->¬∀r,yes rs j r=f (bits r n))(hl:∀j,m<=j->j<rs.length->p<Kv n rs j) :
  Bk n (rs++[some (p,k0,k1)])/\∀r,yes (rs++[some (p,k0,k1)]) rs.length r=f (bits r n):=by
 have pb:∀(r:Row) v,zQ (bits r n) p v<2^n:=fun r v=>zW (Zh _ _) hp
 have low:∀(k:Nat) (w:Bool),k<rs.length->(∀r,yes rs k r=f (zQ (bits r n) p w))->p<Kv n rs k:=fun k w hk hy=>zmx B hk hp fun i hi r v=>by
  rw[hy,hy,zeB (by omega)]
  by_cases e:i=p
  ·subst e
   congr 1
   refine ZW (zW (zW (Zh _ _) hp) hp) (pb r w) fun j _=>?_
   rw[zU,zU,zU]
   by_cases e:j=i
   ·rw[if_pos e,if_pos e]
   ·rw[if_neg e,if_neg e,if_neg e]
  ·rw[<-fr i (by omega) _ (pb r w) v]
   congr 1
   refine ZW (zW (zW (Zh _ _) (by omega)) hp) (zW (pb r w) (by omega)) fun j _=>?_
   rw[zU,zU,zU,zU]
   by_cases e1:j=p
   ·rw[if_pos e1,if_pos e1,if_neg (by omega)]
   ·rw[if_neg e1,if_neg e1]
 have ne:k0≠k1:=fun e=>by
  subst e
  obtain⟨b,hb,hne⟩:=dep
  refine hne ?_
  have a:=y0 (JM b)
  have c:=y1 (JM b)
  rw[Qx hb] at a c
  exact a.symm.trans c
 have fin:∀(R:List Rm) (k:Nat),Bk n R->R[k]?=some (some (p,k0,k1))->(∀j,j<rs.length->∀r,yes R j r=yes rs j r)->∀r,yes R k r=f (bits r n):=fun R k BR e same r=>by
  rw[Rf BR e,same _ m1,same _ m0,y0,y1]
  have hb:=Xe r hp
  cases hr:r p
  ·rw[if_neg ztg]
   rw[hr] at hb
   conv=>rhs;rw[<-yL (bits r n) p,hb]
  ·rw[if_pos rfl]
   rw[hr] at hb
   conv=>rhs;rw[<-yL (bits r n) p,hb]
 have new:some (p,k0,k1)∉rs:=fun h=>by
  obtain⟨j,hj,e⟩:=ztU h
  have e':rs[j]?=some (some (p,k0,k1)):=by rw[ztd hj,e]
  by_cases hm:j<m
  ·exact old j hm (fin rs j B e' fun _ _ _=>rfl)
  ·have:=hl j (by omega) hj
   rw[Rg B e'] at this
   omega
 have B':=B.snoc hp m0 m1 ne (low k0 false m0 y0) (low k1 true m1 y1) new
 refine⟨B',fin _ _ B' (by simp) fun j hj r=>?_⟩
 exact zez B hj r
structure zeC (n:Nat)(rs:List Rm)(ts:List Nat):Prop where
 len:ts.length=rs.length
 tab:∀(j t:Nat),ts[j]?=some t->z9 n t (fun b=>yes rs j (JM b))
theorem zeC.snoc {n:Nat}{rs:List Rm}(B:Bk n rs){ts:List Nat}{x:Rm}{t:Nat}(h:zeC n rs ts)(k:z9 n t (fun b=>yes (rs++[x]) rs.length (JM b))):zeC n (rs++[x]) (ts++[t]):=by
 refine⟨by rw[ztk,ztk,h.len];rfl,fun j u e=>?_⟩
 by_cases hj:j<ts.length
 ·rw[ztJ hj] at e
  refine yR (h.tab j u e) fun b _=>?_
  rw[zez B (by rw[<-h.len];exact hj)]
 ·have lt:=(ztf.mp e).1
  rw[ztk,ztK] at lt
  have ej:j=ts.length:=by omega
  subst ej
  simp at e
  subst e
  rw[h.len]
  exact k
theorem zeC.find {n:Nat}{rs:List Rm}(B:Bk n rs){ts:List Nat}(h:zeC n rs ts){j t:Nat}{f:Nat->Bool}(e:ts[j]?=some t)(tb:z9 n t f)(r:Row):yes rs j r=f (bits r n):=by
 have hj:j<rs.length:=by rw[<-h.len];exact(ztf.mp e).1
 rw[<-zjc B hj,<-ZX tb (Zh r n),ZX (h.tab j t e) (Zh r n)]
theorem zeC.same {n:Nat}{rs:List Rm}{ts:List Nat}(h:zeC n rs ts){j t:Nat}{f:Nat->Bool}(hj:j<rs.length)(tb:z9 n t f)(hy:∀r,yes rs j r=f (bits r n)):ts[j]?=some t:=by
 have lt:j<ts.length:=by rw[h.len];exact hj
 rw[ztd lt]
 congr 1
 refine Vc (h.tab j _ (ztd lt)) tb fun b hb=>?_
 show yes rs j (JM b)=f b
 rw[hy,Qx hb]
end yN
namespace xV
open PySem L2 yN
structure Nums (ts:List Nat)(kvs:List (Key×V)):Prop where
 get:∀(j t:Nat),ts[j]?=some t->ZD kvs (Sum.inl (t:Int))=some (.int (j:Nat))
 non:∀t:Nat,t∉ts->ZD kvs (Sum.inl (t:Int))=none
 len:kvs.length<=ts.length
theorem Nums.snoc {ts:List Nat}{kvs:List (Key×V)}(h:Nums ts kvs){t:Nat}(ht:t∉ts):Nums (ts++[t]) (putK kvs (Sum.inl (t:Int)) (.int (ts.length:Nat))):=by
 refine⟨fun j u e=>?_,fun u hu=>?_,?_⟩
 ·rw[vm]
  by_cases hj:j<ts.length
  ·rw[ztJ hj] at e
   have hm:=zth e
   rw[if_neg fun z=>?_]
   ·exact h.get j u e
   ·have:(u:Int)=(t:Int):=Sum.inl.inj z
    have:u=t:=by omega
    exact ht (this ▸ hm)
  ·have lt:=(ztf.mp e).1
   rw[ztk,ztK] at lt
   have ej:j=ts.length:=by omega
   subst ej
   simp at e
   subst e
   rw[if_pos rfl]
 ·rw[vm,if_neg fun z=>?_]
  ·exact h.non u fun z=>hu (List.mem_append_left _ z)
  ·have:(u:Int)=(t:Int):=Sum.inl.inj z
   have:u=t:=by omega
   exact hu (this ▸ ztt _ ztw)
 ·have:=Vb kvs (Sum.inl (t:Int)) (.int (ts.length:Nat))
  have:=h.len
  rw[ztk,ztK]
  omega
def znM (n j:Nat):Rm->List V
 | none=>[.int (n:Nat),.int (j:Nat),.int (j:Nat)]
 | some (i,lo,hi)=>[.int (i:Nat),.int (lo:Nat),.int (hi:Nat)]
def Kw (ml rl tl nd:Addr):List (Str×V):=[("marks", .ref ml),("rooms", .ref rl),("tables", .ref tl),("numbers", .ref nd)]
structure Parts (C:Addr)(H:Hp)(b:Addr)(os:List Str)(rs:List Rm)(F:uZ)(dx ml rl tl nd:Addr)(rv:List V)(ts:List Nat)(kvs:List (Key×V)):Prop where
 hb:H b=some (.ins C dx (Kw ml rl tl nd))
 hm:H ml=some (.lst (os.map V.str))
 hr:H rl=some (.lst rv)
 ht:H tl=some (.lst (ts.map fun t=>V.int (t:Nat)))
 hd:H nd=some (.dK kvs)
 mr:ml≠rl
 mt:ml≠tl
 rt:rl≠tl
 ord:Q8 os
 bk:Bk os.length rs
 len:rv.length=rs.length
 rm:∀(j:Nat) x,rs[j]?=some x->∃p,rv[j]?=some (.ref p)/\H p=some (.tup (znM os.length j x))
 tabs:zeC os.length rs ts
 nums:Nums ts kvs
 ft:∀x,F x↔(x=b\/x=ml\/x=rl\/x=tl\/x=nd)
def yV (C:Addr)(H:Hp)(b:Addr)(os:List Str)(rs:List Rm)(F:uZ):Prop:=∃dx ml rl tl nd rv ts kvs,Parts C H b os rs F dx ml rl tl nd rv ts kvs
theorem Parts.frame {C:Addr}{H H':Hp}{b:Addr}{os:List Str}{rs:List Rm}{F:uZ}{dx ml rl tl nd:Addr}{rv:List V}{ts:List Nat}{kvs:List (Key×V)}(h:Parts C H b os rs F dx ml rl tl nd rv ts kvs)
  (s:∀x o,H x=some o->F x->H' x=some o)(t:xr H H'):Parts C H' b os rs F dx ml rl tl nd rv ts kvs :=
 {h with
  hb:=s _ _ h.hb ((h.ft _).mpr (.inl rfl))
  hm:=s _ _ h.hm ((h.ft _).mpr (.inr (.inl rfl)))
  hr:=s _ _ h.hr ((h.ft _).mpr (.inr (.inr (.inl rfl))))
  ht:=s _ _ h.ht ((h.ft _).mpr (.inr (.inr (.inr (.inl rfl)))))
  hd:=s _ _ h.hd ((h.ft _).mpr (.inr (.inr (.inr (.inr rfl)))))
  rm:=fun j x e=>let ⟨p,a,c⟩:=h.rm j x e;⟨p,a,t _ _ c⟩ }
theorem uK (C:Addr):zaU C (yV C) where
 ins:=fun⟨dx,ml,rl,tl,nd,rv,ts,kvs,h⟩=>⟨dx,_,h.hb,fun m hm=>by
  simp only[zct,List.mem_cons,ztD,or_false] at hm
  rcases hm with z | z | z | z | z | z<;>subst z<;>rfl⟩
 frame:=fun⟨dx,ml,rl,tl,nd,rv,ts,kvs,h⟩ s t=>⟨dx,ml,rl,tl,nd,rv,ts,kvs,h.frame s t⟩
 there:=fun⟨dx,ml,rl,tl,nd,rv,ts,kvs,h⟩ hx=>by
  rcases (h.ft _).mp hx with z | z | z | z | z<;>subst z
  ·rw[h.hb];exact fun z=>by cases z
  ·rw[h.hm];exact fun z=>by cases z
  ·rw[h.hr];exact fun z=>by cases z
  ·rw[h.ht];exact fun z=>by cases z
  ·rw[h.hd];exact fun z=>by cases z
 bk:=fun⟨_,_,_,_,_,_,_,_,h⟩=>h.bk
 ord:=fun⟨_,_,_,_,_,_,_,_,h⟩=>h.ord
theorem Parts.more {C:Addr}{H H':Hp}{b:Addr}{os:List Str}{rs:List Rm}{F:uZ}{dx ml rl tl nd:Addr}{rv:List V}{ts:List Nat}{kvs:List (Key×V)}(h:Parts C H b os rs F dx ml rl tl nd rv ts kvs)
  {i lo hi t:Nat}{q:Addr}(t':xr H H')(hb:H' b=H b)(hm:H' ml=H ml)(hr:H' rl=some (.lst (rv++[.ref q])))(ht:H' tl=some (.lst (ts.map (fun t=>V.int (t:Nat))++[.int (t:Nat)])))
  (hd:H' nd=some (.dK (putK kvs (Sum.inl (t:Int)) (.int (rs.length:Nat)))))(hq:H' q=some (.tup [.int (i:Nat),.int (lo:Nat),.int (hi:Nat)]))(B':Bk os.length (rs++[some (i,lo,hi)]))(hn:t∉ts)(tb:z9 os.length t (fun b=>yes (rs++[some (i,lo,hi)]) rs.length (JM b))) :
  Parts C H' b os (rs++[some (i,lo,hi)]) F dx ml rl tl nd (rv++[.ref q]) (ts++[t]) (putK kvs (Sum.inl (t:Int)) (.int (rs.length:Nat))) :=
 {hb:=by rw[hb];exact h.hb
  hm:=by rw[hm];exact h.hm
  hr:=hr
  ht:=by rw[ht,ztq];rfl
  hd:=hd
  mr:=h.mr
  mt:=h.mt
  rt:=h.rt
  ord:=h.ord
  bk:=B'
  len:=by rw[ztk,ztk,h.len];rfl
  rm:=fun j x e=>by
   by_cases hj:j<rs.length
   ·rw[ztJ hj] at e
    obtain⟨p,a,c⟩:=h.rm j x e
    exact⟨p,by rw[ztJ (by rw[h.len];exact hj)];exact a,t' _ _ c⟩
   ·have lt:=(ztf.mp e).1
    rw[ztk,ztK] at lt
    have ej:j=rs.length:=by omega
    subst ej
    simp at e
    subst e
    exact⟨q,by rw[<-h.len];simp,hq⟩
  tabs:=h.tabs.snoc h.bk tb
  nums:=by
   have z:=h.nums.snoc hn
   rw[h.tabs.len] at z
   exact z
  ft:=h.ft }
inductive Wj (vs:List V)(H:Hp)(Q:VK)(E9:XK):Prop
 | mk (N p n:Nat) (v:Bool) (f:Nat->Bool) (_:vs=[.int N,.int p,.int (v.toNat:Nat),.int n]) (_:p<n) (_:n<=8) (_:z9 n N f) (_:∀R:Nat,z9 n R (fun b=>f (zQ b p v))->Q (.int R) H):Wj vs H Q E9
inductive zah (vs:List V)(H:Hp)(Q:VK)(E9:XK):Prop
 | mk (N n:Nat) (f:Nat->Bool) (_:vs=[.int N,.int n]) (_:n<=8) (_:z9 n N f) (_:∀p:Nat,p<=n->(∀i,i<p->Free n f i)->(p<n->∃b,b<2^n/\f (zQ b p false)≠f (zQ b p true))->Q (.int p) H):zah vs H Q E9
inductive Yx (C:Addr)(vs:List V)(H:Hp)(Q:VK)(E9:XK):Prop
 | mk (b:Addr) (os:List Str) (rs:List Rm) (F:uZ) (k:Nat) (_:vs=[.ref b,.int k]) (_:yV C H b os rs F) (_:k<rs.length) (_:Q .non H):Yx C vs H Q E9
inductive XS (C:Addr)(vs:List V)(H:Hp)(Q:VK)(E9:XK):Prop
 | mk (b:Addr) (os:List Str) (rs:List Rm) (F:uZ) (k:Nat) (_:vs=[.ref b,.int k]) (_:yV C H b os rs F) (_:k<rs.length) (_:∀t:Nat,z9 os.length t (fun b=>yes rs k (JM b))->Q (.int t) H):XS C vs H Q E9
inductive zdl (vs:List V)(H:Hp)(Q:VK)(E9:XK):Prop
 | mk (N p n:Nat) (f:Nat->Bool) (_:vs=[.int N,.int p,.int n]) (_:p<n) (_:n<=8) (_:z9 n N f) (_:∀b:Bool,(b=false->Free n f p)->(b=true->∃c,c<2^n/\f (zQ c p false)≠f (zQ c p true))->Q (.bl b) H):zdl vs H Q E9
inductive X3 (vs:List V)(H:Hp)(Q:VK)(E9:XK):Prop
 | mk (N M n:Nat) (f g:Nat->Bool) (_:vs=[.int N,.int M]) (_:z9 n N f) (_:z9 n M g) (_:∀R:Nat,z9 n R (fun b=>f b&&!g b)->Q (.int R) H):X3 vs H Q E9
end xV
namespace L2
open PySem PySem.Spec PyProof.Rows
def Its (x:Str):It:={ go:=fun i _=>i<x.cps.size,Qe:=fun i H v H'=>H'=H/\∃c,x.cps[i]?=some c/\v=.str ⟨#[c]⟩,stop:=fun i _=>i=x.cps.size }
theorem zje {P:Program}{w:World}{K:Frag}{tg:Expr}(it:Addr)(x:Str)(t:Tok):Turn P w K tg (Its x) [it] it (fun i h=>h.IsStrIter it "str_ascii_iterator" x t i) where
 mem:=by simp
 obj:=fun i h st b hb=>by
  have e:b=it:=by simpa using hb
  subst e
  obtain⟨o,e,c,d⟩:=st
  exact⟨o,e,fun v z=>by rw[d] at z;cases z⟩
 keep:=fun i h h' st k=>by
  obtain⟨o,e,c,d⟩:=st
  exact⟨o,k it (by simp) o e,c,d⟩
 item:=by
  intro X hP hw hK hc i pins s σ H E I hf st hg
  subst hP hw hK
  obtain⟨f0,f1,f2,f3,f4,f5⟩:=hf it (by simp)
  have W:=Walks.strAscii (prog:=X.prog) (w:=X.w) (I.ok.hd hc) it x t
  refine W.item i s _ _ hg st fun v h' tk hv st' kk=>?_
  obtain⟨c,u,hc',rfl⟩:=hv
  have I1:Inv X pins σ H { s with heap:=h',toks:=tk }:=I.turned (fun b o hb e=>kk b o (by simpa using hb) e) f0 f1 f3 f4 f5
  obtain⟨o,e,cc,d⟩:=id st'
  exact⟨_,rfl,zef (s:={ s with heap:=h',toks:=tk }) e cc d (by decide) ⟨.str ⟨#[c]⟩,H,I1,⟨u,rfl⟩,⟨rfl,c,hc',rfl⟩,st',fun b hb=>(hf b hb).1⟩⟩
 done:=by
  intro X hP hw hK hc i pins s σ H E I hf st hg
  subst hP hw hK
  obtain⟨f0,f1,f2,f3,f4,f5⟩:=hf it (by simp)
  have W:=Walks.strAscii (prog:=X.prog) (w:=X.w) (I.ok.hd hc) it x t
  have e:i=x.cps.size:=hg
  subst e
  exact W.done s _ _ st fun h' tk kk=>⟨rfl,I.turned (fun b o hb e=>kk b o (by simpa using hb) e) f0 f1 f3 f4 f5⟩
 self:=fun _ _ _ _ _ st h=>wpAny_pyIter_striter_ascii st h
section
variable {X:Cx}{tg:Expr}
def zpq (tl:TE):TI:=fun σ H R=>tl σ H fun x H1=>∃z:Str,x=.str z/\(z.cps.all fun c=>decide (c<128))=true/\R (Its z) H1
theorem zjf {l:Expr}{tl:TE}(hl:PE X l tl):PI X tg l (zpq tl):=by
 intro pins s σ H R I h
 refine wD (hl pins s σ H _ I h) fun v s1 ⟨x,H1,I1,r1,q1⟩=>?_
 obtain⟨z,e,ha,q⟩:=q1
 subst e
 obtain⟨t,rfl⟩:=r1
 refine wpAny_pyIter_ascii ha ?_
 refine⟨s1.heap.objs.size,[s1.heap.objs.size],_,_,H1,rfl,I1.kept (t':=s1.toks) fun b o e=>zti _ e,zje _ z t,⟨_,ztx _ rfl,rfl,rfl⟩,fun b hb=>?_,q⟩
 have e:b=s1.heap.objs.size:=by simpa using hb
 subst e
 exact I1.zee (zts _) (I1.hok.fresh (zts _))
end
end L2
namespace xV
open PySem L2 yN
def chc (b:Bool):Nat:=if b then 49 else 48
end xV
namespace yN
open xV
def allR:Nat->List (List Bool)
 | 0=>[[]]
 | n+1=>(allR n).flatMap fun r=>[r++[false],r++[true]]
def znN (r:List Bool):Row:=fun i=>r.getD i false
theorem vY:∀(n:Nat) (r:List Bool),r∈allR n->r.length=n
 | 0,r,h=>by
  have:r=[]:=by simpa [allR] using h
  rw[this];rfl
 | n+1,r,h=>by
  obtain⟨x,hx,hr⟩:=List.mem_flatMap.mp h
  have ih:=vY n x hx
  simp at hr
  rcases hr with z | z<;>rw[z,ztk,ih]<;>rfl
theorem Ky {α β:Type}(f:α->List β)(h:∀a,(f a).length=2):∀l:List α,(l.flatMap f).length=2*l.length
 | []=>rfl
 | a::l=>by rw[List.flatMap_cons,ztk,h a,Ky f h l,zto];omega
theorem V8:∀n,(allR n).length=2^n
 | 0=>rfl
 | n+1=>by
  show((allR n).flatMap _).length=_
  rw[Ky _ (fun _=>rfl),V8 n,Nat.pow_succ];omega
end yN
namespace L2
open PySem PySem.Spec PyProof.Rows
section
variable {X:Cx}{sc wV:Scope}{xs:List Str}{js:List Nat}{tg:Expr}{g:TG}{elt iter:Expr}{px pos:Pos}{ifs:List Expr}{wi:TI}{tt:TT}{te:TE}
theorem zjg (Ys:X.env.scope=wV)(L:zen wV sc xs (js.map fun j=>X.N.getD j ""))(hc:X.calm=true)(hi:PI X tg iter wi)(hg:∀(cl:List (Str×Addr)) (C:Addr) (s₂:Shared) (H₂:Hp) (fp:List Addr),PG (X.blk sc cl C (Ux X xs js) s₂ H₂ fp) tg g)(hjs:∀j∈js,j<X.N.length)
  (ht:∀(cl:List (Str×Addr)) (C:Addr) (s₂:Shared) (H₂:Hp) (fp:List Addr) (pins:List (Addr×Obj)) (s':Shared) (σ':St) (H':Hp) (Q:Bool->Hp->Prop),Inv (X.blk sc cl C (Ux X xs js) s₂ H₂ fp) pins σ' H' s'->tt σ' H' Q ->
   wpAny (model X.prog X.w) X.A (YL ifs (compEnvC sc cl C X.env)) (TP (X.blk sc cl C (Ux X xs js) s₂ H₂ fp) pins σ' Q) (fun _ _=>False) s')
  (he:∀(cl:List (Str×Addr)) (C:Addr) (s₂:Shared) (H₂:Hp) (fp:List Addr),PE (X.blk sc cl C (Ux X xs js) s₂ H₂ fp) elt te)
  (hs:∀x,foldedSetIterable iter X.env x=pure x:=by intro _;rfl) :
  PE X (.ListComp elt [⟨tg,iter,ifs,0⟩] sc pos) (zkk wi xs js g tt te):=by
 intro pins s σ H Q I h
 rw[eval_ListComp]
 refine zaG (use:=none) (Fin:=fun ys H=>∀p,H p=none->Q (.ref p) (upd H p (.lst ys))) Ys L (rd:=Calm) (fun _ _ _ _ _ _ _=>hc) hi hg hjs ht he hs I h fun D C s5 H5 ys its k m5 J oD oC hDC p1 vs z hn fin=>?_
 refine⟨m5,hn,fun h' hsb=>?_⟩
 have J2:Inv X pins σ H5 { s5 with heap:=h',toks:=s5.toks }:=J.turned (it:=C) (fun b o hb e=>hsb.extBut b o hb e) oC.free oC.loc (.inr oC.new) oC.cel oC.pin
 have p1':h'.get? D=some (uo its k):=hsb.extBut _ _ hDC p1
 have J3:Inv X pins σ (upd H5 D (.lst ys)) { s5 with heap:=h',toks:=s5.toks }:=J2.track oD.free oD.loc oD.new oD.cel oD.pin ⟨z,its,k,vs,p1'⟩
 exact⟨.ref D,_,J3,rfl,fin D oD.free⟩
end
theorem Inv.zkK {X:Cx}{pins:List (Addr×Obj)}{σ:St}{H:Hp}{s:Shared}{h':Heap}{t':Nat}{fp:List Addr}(I:Inv X pins σ H s)(k:∀b o,b∉fp->s.heap.get? b=some o->h'.get? b=some o)(hf:∀b∈fp,zbD X pins H b) :
  Inv X pins σ H { s with heap:=h',toks:=t' }:=by
 have nit:∀b u,H b=some u->b∉fp:=fun b u e z=>by rw[(hf b z).1] at e;cases e
 refine I.step (g':=s.gens) (d':=s.drawn) (ch:=fp) (fun b hb=>⟨(hf b hb).2.2.2.1,(hf b hb).2.1,(hf b hb).2.2.2.2.1,(hf b hb).2.2.2.2.2⟩) (fun b o _ _ hc e _=>k b o hc e) (fun b o _ _ hc e _=>⟨o.slots,k b o hc e⟩) (fun _ _ _ _ n=>n)
  (fun b o hc e=>⟨o,k b o hc e⟩) (fun _ _ e=>e) (fun _ _ _ e=>e) (fun b ps e=>⟨#[],by rw[e];simp⟩) (fun m hm=>?_) (fun b u e=>?_) I.bare
 ·obtain⟨o,es,ep,ho,r⟩:=hm
  exact⟨o,es,ep,k _ o (fun z=>(hf _ z).2.1 rfl) ho,r⟩
 ·refine(I.hok b u e).stay (fun c v hc q=>k c v ?_ q) (fun _ q=>q) fun _ _ q=>q
  rcases hc with z | z
  ·rw[z];exact nit b u e
  ·exact nit c _ z
def Itz (K:Frag)(a b:Addr):It :=
 {go:=fun i H=>∃xs ys x y,zP K H a xs/\zP K H b ys/\xs[i]?=some x/\ys[i]?=some y
  Qe:=fun i H v H'=>∃q x y,(∀xs,zP K H a xs->xs[i]?=some x)/\(∀ys,zP K H b ys->ys[i]?=some y)/\v=.ref q/\H q=none/\H'=upd H q (.tup [x,y])
  stop:=fun i H=>∃xs ys,zP K H a xs/\zP K H b ys/\(xs.length<=i\/ys.length<=i) }
theorem zjh {P:Program}{w:World}{K:Frag}{els:List Expr}{x1}{pt:Pos}(a b z ti to i1 i2:Addr)(D:ZipApart z ti to i1 i2 a b):Turn P w K (.Tuple els x1 pt) (Itz K a b) [z,ti,to,i1,i2] z
  (fun i h=>IsZip h z ti to .none/\IsPair h ti (.ref i1) (.ref i2)/\(∃u v,IsPair h to u v)/\h.IsListIter i1 a i/\h.IsListIter i2 b i) where
 mem:=by simp
 obj:=fun i h st c hc=>by
  obtain⟨q1,q2,⟨u,v,q3⟩,⟨o4,q4,c4,d4⟩,⟨o5,q5,c5,d5⟩⟩:=st
  simp only[List.mem_cons,ztD,or_false] at hc
  rcases hc with e | e | e | e | e<;>subst e
  ·exact⟨_,q1,fun v hv=>by cases hv⟩
  ·exact⟨_,q2,fun v hv=>by cases hv⟩
  ·exact⟨_,q3,fun v hv=>by cases hv⟩
  ·exact⟨_,q4,fun v hv=>by rw[d4] at hv;cases hv⟩
  ·exact⟨_,q5,fun v hv=>by rw[d5] at hv;cases hv⟩
 keep:=fun i h h' st k=>by
  obtain⟨q1,q2,⟨u,v,q3⟩,q4,q5⟩:=st
  exact⟨k z (by simp) _ q1,k ti (by simp) _ q2,⟨u,v,k to (by simp) _ q3⟩,q4.at fun o e=>k i1 (by simp) o e,q5.at fun o e=>k i2 (by simp) o e⟩
 item:=by
  intro X hP hw hK hc i pins s σ H E I hf st hg
  subst hP hw hK
  obtain⟨xs,ys,x,y,hq1,hq2,hx,hy⟩:=hg
  obtain⟨q1,q2,⟨u0,v0,q3⟩,q4,q5⟩:=st
  obtain⟨zf5,rv1,pl1,hz1⟩:=I.list hq1
  obtain⟨its2,rv2,pl2,hz2⟩:=I.list hq2
  obtain⟨u,hu,ru⟩:=rv1.get hx
  obtain⟨v,hv,rv⟩:=rv2.get hy
  refine wpAny_pyNext_zip_item D q1 q2 q3 q4 q5 pl1.isList pl2.isList (x:=u) (y:=v) (by simpa using hu) (by simpa using hv) fun h1 out pto it1 it2 tup sz k1=>?_
  refine⟨.ref s.heap.objs.size,rfl,wpAny_letOwnedTupleGo_zip out fun h2 he2 sb=>?_⟩
  have ltz:=ztj q1
  have ltf:∀c∈[z,ti,to,i1,i2],c<s.heap.objs.size:=fun c hc=>by
   simp only[List.mem_cons,ztD,or_false] at hc
   rcases hc with e | e | e | e | e<;>subst e
   ·exact ltz
   ·exact ztj q2
   ·exact ztj q3
   ·obtain⟨o,e,_⟩:=q4;exact ztj e
   ·obtain⟨o,e,_⟩:=q5;exact ztj e
  have k2:∀c o,c∉[z,ti,to,i1,i2]->s.heap.get? c=some o->h2.get? c=some o:=fun c o hc q=>by
   simp only[List.mem_cons,ztD,or_false,not_or] at hc
   obtain⟨c1,c2,c3,c4,c5⟩:=hc
   exact(sb.2 c c1).trans (k1 c o c1 c3 c4 c5 q)
  have it1':h2.IsListIter i1 a (i+1):=it1.at fun o e=>(sb.2 i1 D.i1z).trans e
  have it2':h2.IsListIter i2 b (i+1):=it2.at fun o e=>(sb.2 i2 D.i2z).trans e
  have hti:IsPair h2 ti (.ref i1) (.ref i2):=(sb.2 ti D.TIz).trans (k1 ti _ D.TIz D.TITO D.TIi1 D.TIi2 q2)
  have hto:IsPair h2 to u v:=(sb.2 to D.TOz).trans pto
  have J1:Inv X pins σ H { s with heap:=h2,toks:=s.toks }:=I.zc4 (fp:=[z,ti,to,i1,i2]) k2 (fun c hc=>by
   simp only[List.mem_cons,ztD,or_false] at hc
   rcases hc with e | e | e | e | e<;>subst e
   ·exact⟨_,he2⟩
   ·exact⟨_,hti⟩
   ·exact⟨_,hto⟩
   ·obtain⟨o,e,_⟩:=it1';exact⟨o,e⟩
   ·obtain⟨o,e,_⟩:=it2';exact⟨o,e⟩) hf
  have ziQ:h2.get? s.heap.objs.size=some { cls:=.type "tuple", data:=.seq #[u,v] }:=(sb.2 _ (Nat.ne_of_gt ltz)).trans tup
  have ltc:∀y c,X.env.cells.lookup y=some c->c≠s.heap.objs.size:=fun y c q=>by
   obtain⟨v,o,z,_⟩:=I.cell y c q
   exact ztr (ztj z)
  have ltp:∀p∈X.pn++pins,p.1≠s.heap.objs.size:=fun p hp=>ztr (ztj (I.pin p hp).1)
  have J2:=J1.track (a:=s.heap.objs.size) (o:=.tup [x,y]) I.fresh (Ne.symm (ztr I.lt)) I.sz ltc ltp ⟨by show 2<=sizeLine;decide,[u,v],.cons ru (.cons rv .nil),⟨_,ziQ,rfl,_,rfl⟩⟩
  refine⟨.ref s.heap.objs.size,_,J2,rfl,⟨_,x,y,fun zs hzs=>by rw[I.Wf hzs hq1];exact hx,fun zs hzs=>by rw[I.Wf hzs hq2];exact hy,rfl,I.fresh,rfl⟩,⟨he2,hti,⟨u,v,hto⟩,it1',it2'⟩,fun c hc=>?_⟩
  rw[zG (ztr (ltf c hc))]
  exact(hf c hc).1
 done:=by
  intro X hP hw hK hc i pins s σ H E I hf st hg
  subst hP hw hK
  obtain⟨xs,ys,hq1,hq2,hx⟩:=hg
  obtain⟨q1,q2,⟨u0,v0,q3⟩,q4,q5⟩:=st
  obtain⟨zf5,rv1,pl1,hz1⟩:=I.list hq1
  obtain⟨its2,rv2,pl2,hz2⟩:=I.list hq2
  have l1:=rv1.length
  have l2:=rv2.length
  refine wpAny_pyNext_zip_end (I.ok.hd hc) D q1 q2 q3 q4 q5 pl1.isList pl2.isList (by
   rcases hx with e | e
   ·left;simp;omega
   ·right;simp;omega) fun h' k=>⟨rfl,?_⟩
  refine I.zkK (t':=s.toks) (fp:=[z,to,i1,i2]) (fun c o hc e=>?_) fun c hc=>hf c (by simp only[List.mem_cons,ztD,or_false] at hc ⊢;rcases hc with e | e | e | e<;>simp[e])
  simp only[List.mem_cons,ztD,or_false,not_or] at hc
  exact k c o hc.1 hc.2.1 hc.2.2.1 hc.2.2.2 e
 self:=fun _ _ _ _ _ st h=>wpAny_pyIter_zip st.1 h
section
variable {X:Cx}
def zpt (K:Frag)(ta:TA):TI:=fun σ H R=>ta σ H fun vs H1=>∃a b xs ys,vs=[.ref a,.ref b]/\zP K H1 a xs/\zP K H1 b ys/\R (Itz K a b) H1
theorem zji {l m:Expr}{ta:TA}{p pos:Pos}{els:List Expr}{x1}{pt:Pos}(hg:Gl X "zip")(hm:X.mg "zip"=none)(ha:PA X [l,m] ta)(hs:starEach [l,m] X.env=[(false,eval l X.env),(false,eval m X.env)]:=by rfl)(hs2:starEach [m] X.env=[(false,eval m X.env)]:=by rfl) :
  PI X (.Tuple els x1 pt) (.Call (.Name "zip" p) [l,m] [] pos) (zpt X.K ta):=by
 intro pins s σ H R I h
 refine Call_ (Wd I hg hm boot_zip (PyProof.Rows.callWith_type1 (wD (ha pos pins s σ H _ I h) fun us s1 ⟨vs,H1,I1,r1,q1⟩=>?_) (by rw[hs,hs2]) (by rw[hs2];rfl)))
 obtain⟨a,b,xs,ys,e,hq1,hq2,q⟩:=q1
 subst e
 obtain⟨u,v,rfl,ru,rv⟩:=vals2 r1
 cases ru
 cases rv
 obtain⟨zf5,rv1,pl1,hz1⟩:=I1.list hq1
 obtain⟨its2,rv2,pl2,hz2⟩:=I1.list hq2
 obtain⟨o1,e1,_⟩:=id pl1.isList
 obtain⟨o2,e2,_⟩:=id pl2.isList
 refine call_zip_2 pl1.isList pl2.isList fun h' hz hti hto it1 it2 hsz hk=>?_
 have J:Inv X pins σ H1 { s1 with heap:=h',toks:=s1.toks }:=I1.kept hk
 refine wpAny_pyIter_zip hz ?_
 refine⟨s1.heap.objs.size+4,[s1.heap.objs.size+4,s1.heap.objs.size+2,s1.heap.objs.size+3,s1.heap.objs.size,s1.heap.objs.size+1],_,_,H1,rfl,J,zjh a b _ _ _ _ _ (zipApart_new (ztj e1) (ztj e2)),⟨hz,hti,⟨_,_,hto⟩,it1,it2⟩,fun c hc=>?_,q⟩
 have gc:s1.heap.objs.size<=c:=by
  simp only[List.mem_cons,ztD,or_false] at hc
  rcases hc with z | z | z | z | z<;>rw[z]<;>omega
 exact I1.zee gc (I1.hok.fresh gc)
def zlD (K:Frag):R2:=fun x y H Q=>∃p q xs ys,x=.ref p/\y=.ref q/\zP K H p xs/\zP K H q ys/\xs.length+ys.length<=sizeLine/\∀l,H l=none->Q (.ref l) (upd H l (.lst (xs++ys)))
theorem U3:Uu X (binaryOp .Add) (zlD X.K):=by
 intro pins s σ H x y v u Q I rx ry h
 obtain⟨p,q,xs,ys,rfl,rfl,hp,hq,hz,h⟩:=h
 cases rx
 cases ry
 obtain⟨zf5,rv1,pl1,hz1⟩:=I.list hp
 obtain⟨its2,rv2,pl2,hz2⟩:=I.list hq
 obtain⟨⟨cls,dd,data,sl⟩,ho,hc,n,hd⟩:=id pl1.isList
 obtain⟨⟨cls2,dd2,data2,sl2⟩,ho2,hc2,n2,hd2⟩:=id pl2.isList
 simp only at hc hd hc2 hd2
 subst hc hd hc2 hd2
 have l1:=rv1.length
 have l2:=rv2.length
 have e:zf5.toArray++its2.toArray=(zf5++its2).toArray:=by simp
 refine concat_meets ⟨_,ho,rfl⟩ ⟨_,ho2,rfl⟩ noFill_list_add seq_list_add PySem.F.slot_list_add PySem.F.entry_list_add (PySem.F.args_list_add_2 _ _) (list_addW p q zf5.toArray its2.toArray n n2 dd dd2 sl sl2 (by simp;omega)) ⟨ho,ho2,?_⟩
 rw[e]
 refine⟨.ref s.heap.objs.size,_,I.laid (t':=s.toks) (o:=.lst (xs++ys)) (fun b o e=>zti _ e) (zts _) ?_,rfl,h _ (I.hok.fresh (zts _))⟩
 exact⟨by rw[ztk];exact hz,zf5++its2,0,rv1.append rv2,ztx _ rfl⟩
end
end L2
namespace xV
open PySem L2 yN
def zf6 (H0 H:Hp)(p:Addr)(r:List Bool):Prop:=H0 p=none/\H p=some (.lst (zZ r))
end xV
namespace L2
open PySem
theorem zdm {X:Cx}{x y:Str}{px py pt:Pos}{x1:Nat}(hc:X.calm=true)(hN:X.N.Nodup)(h0:X.N[0]?=some x)(h1:X.N[1]?=some y)(hx:X.env.scope.names.lookup x=some .local)(hy:X.env.scope.names.lookup y=some .local):PG X (.Tuple [.Name x px,.Name y py] x1 pt) (zfB X.K 2 (V0 (uF 0) (V0 (uF 1) zfA))) :=
 zcR hc (Xc (yw hN h0 (.inl hx) (.inr hx)) (Xc (yw hN h1 (.inl hy) (.inr hy)) zaa))
end L2
namespace L2
open PySem PySem.Spec PyProof.Rows
structure zcu (wV sc:Scope)(x y:Str)(fv:List Str):Prop where
 g:zen wV sc [x,y] fv
 hx:sc.names.lookup x=some .local
 hy:sc.names.lookup y=some .local
 nd:([x,y]++fv).Nodup
theorem zmy {X:Cx}{sc wV:Scope}{x y:Str}{js:List Nat}{elt iter:Expr}{px py pt pos:Pos}{x1:Nat}{wi:TI}{te:TE}(Ys:X.env.scope=wV)(L:zcu wV sc x y (js.map fun j=>X.N.getD j ""))(hc:X.calm=true)(hi:PI X (.Tuple [.Name x px,.Name y py] x1 pt) iter wi)(hjs:∀j∈js,j<X.N.length)
  (he:∀(cl:List (Str×Addr)) (C:Addr) (s₂:Shared) (H₂:Hp) (fp:List Addr),PE (X.blk sc cl C (Ux X [x,y] js) s₂ H₂ fp) elt te)
  (hs:∀x,foldedSetIterable iter X.env x=pure x:=by intro _;rfl) :
  PE X (.ListComp elt [⟨.Tuple [.Name x px,.Name y py] x1 pt,iter,[],0⟩] sc pos) (zkk wi [x,y] js (zfB X.K 2 (V0 (uF 0) (V0 (uF 1) zfA))) Sv te) :=
 zjg Ys L.g hc hi (fun cl C s₂ H₂ fp=>zdm (X:=X.blk sc cl C (Ux X [x,y] js) s₂ H₂ fp) hc L.nd rfl rfl (lookup_relabel_local L.hx) (lookup_relabel_local L.hy)) hjs (fun cl C s₂ H₂ fp pins s' σ' H' Q I h=>wpAny_pure ⟨H',I,h⟩) he hs
end L2
namespace xV
open PySem L2 yN
def vo (ns:List Int)(i:Nat):Int:=(ns[i]?).getD 0
inductive zai (K:Frag)(vs:List V)(H:Hp)(Q:VK)(E9:XK):Prop
 | mk (l:Addr) (ns:List Int) (i:Nat) (_:vs=[.ref l,.int i]) (_:zP K H l (ns.map V.int)) (_:Q (.int (vo ns i)) H):zai K vs H Q E9
end xV
namespace L2
theorem zpu {σ:St}{H:Hp}{Q:Bool->Hp->Prop}(h:Q true H):Sv σ H Q:=h
end L2
namespace xV
open PySem L2 yN
theorem Sn.zeD:∀s:Sn,s.count+1<=2^s.depth:=by
 have key:∀(d:Nat) (s:Sn),s.depth<=d->s.count+1<=2^d:=by
  intro d
  induction d with
  | zero=>intro s h;have:=Sn.Qk s;omega
  | succ d ih =>
   intro s h
   have hp:=Sn.Jh s
   have hl:=Sn.Mx s
   have hd:=Sn.Sx s
   have hc:∀t∈s.parts,t.count+1<=2^d:=fun t ht=>ih t (by have:=hd t ht;omega)
   have p1:1<=2^d:=Nat.one_le_two_pow
   rw[Nat.pow_succ,hp]
   match hs:s.parts,hl with
   | [],_=>simp;omega
   | [a],_ =>
    have:=hc a (by rw[hs];simp)
    simp;omega
   | [a,b],_ =>
    have h1:=hc a (by rw[hs];simp)
    have h2:=hc b (by rw[hs];simp)
    simp;omega
   | a::b::c::r,h=>simp at h
 exact fun s=>key _ s (zts _)
end xV
namespace L2
open PySem
theorem zaV:bootBuiltins "max"=some (.builtin "max"):=by decide +kernel
theorem zmz:bootBuiltins "min"=some (.builtin "min"):=by decide +kernel
theorem zeE {xs:List V}{n:Nat}:QV xs (some (n:Int)) none=xs.drop n:=by
 unfold QV
 rw[HT.Qg,HT.zaC]
 by_cases h:n<=xs.length
 ·rw[Nat.min_eq_left h]
  exact List.take_of_length_le (by rw[List.length_drop];omega)
 ·rw[Nat.min_eq_right (by omega),List.drop_eq_nil_of_le (zts _),List.drop_eq_nil_of_le (by omega)]
  simp
end L2
namespace xV
open PySem L2 yN
theorem zhe {r:List Bool}{i:Nat}(h:i<r.length)(v:Bool):(zZ r).take i++[V.int (v.toNat:Nat)]++(zZ r).drop (i+1)=zZ (r.set i v):=by
 rw[<-zi6,List.set_eq_take_append_cons_drop]
 rw[if_pos (by rw[ztc];exact h)]
 simp
theorem zpv:w2 0=Str.ofString "and" := rfl
theorem zpw:w2 1=Str.ofString "or" := rfl
theorem zpx:w2 2=Str.ofString "either" := rfl
theorem zpy:w2 3=Str.ofString "if" := rfl
theorem znO {A B C D:V}(o:Fin 4):ZD (Yw [] ([(Sum.inr "and", A),(Sum.inr "or", B),(Sum.inr "either", C),(Sum.inr "if", D)]:List (Key×V))) (Sum.inr (w2 o):Key)=some (match o with | 0=>A | 1=>B | 2=>C | 3=>D):=by
 have ne:∀{x y:Str},x≠y->¬((Sum.inr x:Key)=Sum.inr y):=fun h z=>h (Sum.inr.inj z)
 show ZD (putK (putK (putK (putK ([]:List (Key×V)) (Sum.inr "and") A) (Sum.inr "or") B) (Sum.inr "either") C) (Sum.inr "if") D) (Sum.inr (w2 o))=_
 rcases zmq o with e | e | e | e<;>subst e
 ·rw[zpv,vm,if_neg (ne (by decide +kernel)),vm,if_neg (ne (by decide +kernel)),vm,if_neg (ne (by decide +kernel)),vm,if_pos rfl]
 ·rw[zpw,vm,if_neg (ne (by decide +kernel)),vm,if_neg (ne (by decide +kernel)),vm,if_pos rfl]
 ·rw[zpx,vm,if_neg (ne (by decide +kernel)),vm,if_pos rfl]
 ·rw[zpy,vm,if_pos rfl]
def zhZ (x:Addr)(H0 H:Hp)(p:Addr)(r:List Bool):Prop:=H0 p=none/\p≠x/\H p=some (.lst (zZ r))
theorem zaW {x:Addr}{H0 H H':Hp}{ps:List Addr}{es:List (List Bool)}(h:Paired (zhZ x H0 H) ps es)(g:Same H H'):Paired (zhZ x H0 H') ps es:=yO (fun _ _ r=>⟨r.1,r.2.1,g _ _ r.2.2⟩) h
theorem zcv {x:Addr}{H0 H:Hp}{ps:List Addr}{es:List (List Bool)}{o:HO}(h:Paired (zhZ x H0 H) ps es):Paired (zhZ x H0 (upd H x o)) ps es:=yO (fun _ _ r=>⟨r.1,r.2.1,by rw[zG r.2.1];exact r.2.2⟩) h
inductive V9 (vs:List V)(H:Hp)(Q:VK)(E9:XK):Prop
 | mk (n:Nat) (_:vs=[.int n]) (_:n<=8) (_:∀(l:Addr) (H':Hp) (ps:List Addr),Same H H'->H l=none->H' l=some (.lst (ps.map V.ref))->Paired (zf6 H H') ps (allR n)->Q (.ref l) H'):V9 vs H Q E9
inductive zaX (K:Frag)(vs:List V)(H:Hp)(Q:VK)(E9:XK):Prop
 | mk (p l:Addr) (s:Sn) (os:List Str) (_:vs=[.ref p,.ref l]) (_:Qo H s p) (_:zP K H l (os.map V.str)) (_:s.PX os) (_:os.length<=8) (_:s.depth<=20) (_:∀(yl:Addr) (H':Hp) (ps:List Addr),Same H H'->H yl=none->H' yl=some (.lst (ps.map V.ref))->Paired (zf6 H H') ps ((allR os.length).filter fun r=>s.val (xP os (zx r)))->Q (.ref yl) H'):zaX K vs H Q E9
end xV
namespace L2
open PySem PySem.Spec PyProof.Rows
theorem znP {x:V}{p q:Prop}(h:q):if (!decide (x=x))=true then p else q:=by
 rw[decide_eq_true rfl]
 exact h
theorem zf7 {x y:V}{p q:Prop}(e:x=y)(h:q):if (!decide (x=y))=true then p else q:=by
 subst e
 exact znP h
section
variable {X:Cx}
theorem Jm:∀{xs:List V} {us:List Value},xs.length=us.length->(∀(i:Nat) x u,xs[i]?=some x->us[i]?=some u->RelV x u)->Vals xs us
 | [],[],_,_=>.nil
 | [],_::_,h,_=>by cases h
 | _::_,[],h,_=>by cases h
 | x::xs,u::us,h,r=>.cons (r 0 x u rfl rfl) (Jm (Nat.succ.inj h) fun i x u hx hu=>r (i+1) x u hx hu)
def Jo (n:Nat):List V:=(List.range n).map fun i=>V.int (i:Nat)
def tLR (ta:TA):TE:=fun σ H Q=>ta σ H fun vs H1=>∃n:Nat,vs=[.int (n:Nat)]/\n<=1000000/\∀l,H1 l=none->Q (.ref l) (upd H1 l (.lst (Jo n)))
theorem zdn {e:Expr}{ta:TA}{p p2 pos pos2:Pos}(hc:X.calm=true)(hg:Gl X "list")(hm:X.mg "list"=none)(hg2:Gl X "range")(hm2:X.mg "range"=none)(ha:PA X [e] ta)
  (hs:starEach [e] X.env=[(false,eval e X.env)]:=by rfl)
  (hs2:starEach [.Call (.Name "range" p2) [e] [] pos2] X.env=[(false,eval (.Call (.Name "range" p2) [e] [] pos2) X.env)]:=by rfl) :
  PE X (.Call (.Name "list" p) [.Call (.Name "range" p2) [e] [] pos2] [] pos) (tLR ta):=by
 intro pins s σ H Q I h
 refine wpAny_Call_Name_kw (Wd I hg hm Qj ?_ (by decide) (by decide))
 refine PyProof.Rows.callWith_type1 ?_ hs2 rfl
 rw[hs2]
 show wpAny _ _ (spliced ((false,eval (.Call (.Name "range" p2) [e] [] pos2) X.env)::[])) _ _ s
 refine Calls.spliced_cons ?_
 refine Call_ (Wd I hg2 hm2 boot_range (PyProof.Rows.callWith_type1 (wD (ha pos2 pins s σ H _ I h) fun us s1 ⟨vs,H1,I1,r1,q1⟩=>?_) hs rfl))
 obtain⟨n,e1,hn,q⟩:=q1
 subst e1
 obtain⟨u,rfl,ru⟩:=vals1 r1
 obtain⟨t,rfl⟩:=ru
 refine call_range_1 (Calls.spliced_nil ?_)
 refine call_list_range (n:=n) (I1.ok.hd hc) (IsRange.new ..) (small_one (by omega) (by omega) (by omega) (by omega)) (by rw[rangeSize_one];split<;>omega) (by omega) fun h' tk acc' c' kp e0 ac=>?_
 have I2:=I1.kept (t':=s1.toks+1+1) (h':=s1.heap.push { cls:=.type "range", data:=.fields #[.int 0 s1.toks,.int n t,.int 1 (s1.toks+1)] }) fun b o e=>zti _ e
 have hl:acc'.size=n:=ac.1
 have rv:Vals (Jo n) acc'.toList:=by
  refine Jm (by simp[Jo,hl]) fun i x u hx hu=>?_
  have hi:i<n:=by
   have:=(ztf.mp hx).1
   simpa [Jo] using this
  unfold Jo at hx
  rw[zte,List.getElem?_range hi] at hx
  cases hx
  obtain⟨t',rfl⟩:=ac.2 i u (by simpa using hu)
  exact⟨t',by simp⟩
 exact⟨.ref _,_,I2.laid (t':=tk) (o:=.lst (Jo n)) kp (zts _) ⟨by unfold Jo;rw[ztc,ztu];exact zty hn (by decide),acc'.toList,c',rv,by simpa using e0⟩,rfl,q _ (I2.hok.fresh (zts _))⟩
end
end L2
namespace yN
open xV
def anyB (n:Nat)(f:Nat->Bool):Bool:=(List.range (2^n)).any f
theorem anyB_iff {n:Nat}{f:Nat->Bool}:anyB n f=true↔∃b,b<2^n/\f b=true:=by
 unfold anyB
 rw[List.any_eq_true]
 exact⟨fun⟨b,h,e⟩=>⟨b,List.mem_range.mp h,e⟩,fun⟨b,h,e⟩=>⟨b,List.mem_range.mpr h,e⟩⟩
theorem ZP {n N:Nat}{f:Nat->Bool}(h:z9 n N f):decide (N=0)=!anyB n f:=by
 by_cases e:N=0
 ·subst e
  rw[decide_eq_true rfl]
  cases hb:anyB n f with
  | false=>rfl
  | true =>
   obtain⟨b,hb,e⟩:=anyB_iff.mp hb
   have:=ZX h hb
   rw[e,Nat.zero_testBit] at this
   cases this
 ·rw[decide_eq_false e]
  cases hb:anyB n f with
  | true=>rfl
  | false =>
   exfalso
   refine e (Nat.eq_of_testBit_eq fun i=>?_)
   rw[h i,Nat.zero_testBit]
   by_cases hi:i<2^n
   ·cases hf:f i with
    | false=>rw[Bool.and_false]
    | true=>rw[anyB_iff.mpr ⟨i,hi,hf⟩] at hb;cases hb
   ·rw[decide_eq_false hi];rfl
def fvP (n:Nat):(Nat->Bool)->List Nat->List Bool
 | _,[]=>[]
 | f,p::ps=>(!anyB n fun b=>f (zQ b p false))::fvP n (fun b=>f (zQ b p (!anyB n fun b=>f (zQ b p false)))) ps
def mix:Nat->List Bool->Nat->Nat
 | _,[],b=>b
 | i,v::r,b=>zQ (mix (i+1) r b) i v
theorem MN:∀(r:List Bool) (i:Nat) (v:Bool) (b:Nat),mix i (r++[v]) b=mix i r (zQ b (i+r.length) v)
 | [],i,v,b=>rfl
 | u::r,i,v,b=>by
  show zQ (mix (i+1) (r++[v]) b) i u=zQ (mix (i+1) r (zQ b (i+(r.length+1)) v)) i u
  rw[MN r (i+1) v b,show i+1+r.length=i+(r.length+1) by omega]
theorem zjj {n:Nat}:∀(r:List Bool) (i b:Nat),i+r.length<=n->b<2^n->mix i r b<2^n
 | [],i,b,_,hb=>hb
 | v::r,i,b,h,hb=>by
  rw[zto] at h
  exact zW (zjj r (i+1) b (by omega) hb) (by omega)
theorem zhf:∀(r:List Bool) (i b j:Nat),i<=j->j<i+r.length->(mix i r b).testBit j=r.getD (j-i) false
 | [],i,b,j,h1,h2=>by rw[List.length_nil] at h2;omega
 | v::r,i,b,j,h1,h2=>by
  show(zQ (mix (i+1) r b) i v).testBit j=_
  rw[zU]
  by_cases e:j=i
  ·subst e
   rw[if_pos rfl,Nat.sub_self]
   rfl
  ·rw[zto] at h2
   rw[if_neg e,zhf r (i+1) b j (by omega) (by omega)]
   obtain⟨m,rfl⟩:∃m,j=i+1+m:=⟨j-(i+1),by omega⟩
   rw[show i+1+m-(i+1)=m by omega,show i+1+m-i=m+1 by omega]
   rfl
theorem zhg {n:Nat}{r:List Bool}{b:Nat}(hl:r.length=n)(hb:b<2^n):mix 0 r b=zx r:=by
 have hr:=Yt r
 rw[hl] at hr
 refine ZW (zjj r 0 b (by omega) hb) hr fun i hi=>?_
 rw[zhf r 0 b i (ztz _) (by omega),wg,Nat.sub_zero,ztp]
def JN (n:Nat)(f:Nat->Bool):Nat->List Bool
 | 0=>[]
 | i+1=>JN n f i++[!anyB n fun b=>f (mix 0 (JN n f i++[false]) b)]
theorem zeF (n:Nat)(f:Nat->Bool):∀i,(JN n f i).length=i
 | 0=>rfl
 | i+1=>by show(_++[_]).length=_;rw[ztk,zeF n f i];rfl
theorem zcw (n:Nat)(f:Nat->Bool):∀(m i:Nat),JN n f (i+m)=JN n f i++fvP n (fun b=>f (mix 0 (JN n f i) b)) (List.range' i m)
 | 0,i=>by show _=_++[];rw[List.append_nil];rfl
 | m+1,i=>by
  have hl:=zeF n f i
  have e1:∀v b,mix 0 (JN n f i) (zQ b i v)=mix 0 (JN n f i++[v]) b:=fun v b=>by rw[MN,hl,Nat.zero_add]
  rw[show i+(m+1)=i+1+m by omega,zcw n f m (i+1),List.range'_succ]
  show(JN n f i++[_])++_=JN n f i++(_::_)
  rw[List.append_assoc]
  simp only[e1]
  rfl
theorem zh0 (n:Nat)(f:Nat->Bool):fvP n f (List.range n)=JN n f n:=by
 have:=zcw n f n 0
 rw[Nat.zero_add] at this
 rw[this,List.range_eq_range']
 rfl
theorem zcx {p q:List Bool->Bool}:∀{l:List (List Bool)} {x:List Bool},(∀r∈l,p r=(q (r++[false])||q (r++[true])))->(l.filter p).head?=some x ->
  ((l.flatMap fun r=>[r++[false],r++[true]]).filter q).head?=some (x++[!q (x++[false])])
 | [],x,_,h=>by cases h
 | r::l,x,hp,h=>by
  have hr:=hp r ztw
  rw[List.flatMap_cons,ztQ]
  cases hpr:p r with
  | true =>
   rw[List.filter_cons_of_pos hpr] at h
   have ex:r=x:=ztH h
   subst ex
   rw[hpr] at hr
   cases h0:q (r++[false]) with
   | true=>rw[List.filter_cons_of_pos h0];rfl
   | false =>
    rw[h0,Bool.false_or] at hr
    rw[List.filter_cons_of_neg (by rw[h0];exact ztg),List.filter_cons_of_pos hr.symm]
    rfl
  | false =>
   rw[List.filter_cons_of_neg (by rw[hpr];exact ztg)] at h
   rw[hpr] at hr
   have h0:q (r++[false])=false:=by cases hh:q (r++[false]) with | false=>rfl | true=>rw[hh] at hr;cases hr
   have h1:q (r++[true])=false:=by cases hh:q (r++[true]) with | false=>rfl | true=>rw[hh,Bool.or_true] at hr;cases hr
   rw[List.filter_cons_of_neg (by rw[h0];exact ztg),List.filter_cons_of_neg (by rw[h1];exact ztg)]
   exact zcx (fun r' hr'=>hp r' (ztn _ hr')) h
theorem zeG {n:Nat}{f:Nat->Bool}(h:anyB n f=true):∀i,i<=n->((allR i).filter fun r=>anyB n fun b=>f (mix 0 r b)).head?=some (JN n f i)
 | 0,_=>by
  show(List.filter _ [[]]).head?=_
  have e:(anyB n fun b=>f (mix 0 [] b))=true:=h
  rw[List.filter_cons_of_pos (p:=fun r=>anyB n fun b=>f (mix 0 r b)) e]
  rfl
 | i+1,hi=>by
  refine zcx (fun r hr=>?_) (zeG h i (by omega))
  have hl:=vY i r hr
  rw[ztS,Bool.or_eq_true,anyB_iff,anyB_iff,anyB_iff]
  constructor
  ·rintro⟨b,hb,e⟩
   have e2:mix 0 (r++[b.testBit i]) b=mix 0 r b:=by rw[MN,Nat.zero_add,hl,yL]
   cases hv:b.testBit i with
   | false=>rw[hv] at e2;exact .inl ⟨b,hb,by rw[e2];exact e⟩
   | true=>rw[hv] at e2;exact .inr ⟨b,hb,by rw[e2];exact e⟩
  ·rintro (⟨b,hb,e⟩ | ⟨b,hb,e⟩)<;>rw[MN,Nat.zero_add,hl] at e<;>exact⟨_,zW hb (by omega),e⟩
theorem zf8 {n:Nat}{f:Nat->Bool}(h:anyB n f=true):((allR n).filter fun r=>f (zx r)).head?=some (fvP n f (List.range n)):=by
 rw[zh0,<-zeG h n (zts _)]
 congr 1
 refine List.filter_congr fun r hr=>?_
 have hl:=vY n r hr
 rw[ztS,anyB_iff]
 constructor
 ·intro e
  exact⟨0,Nat.two_pow_pos n,by rw[zhg hl (Nat.two_pow_pos n)];exact e⟩
 ·rintro⟨b,hb,e⟩
  rw[zhg hl hb] at e
  exact e
end yN
namespace xV
open PySem L2 yN
theorem zjk {r t:List Bool}(h:zZ r=zZ t):r=t:=by
 unfold zZ at h
 refine List.map_inj_right (f:=fun b:Bool=>V.int (b.toNat:Nat)) (fun a b e=>?_) |>.mp h
 cases a<;>cases b<;>first | rfl | (injection e with e;cases e)
inductive Vv (K:Frag)(vs:List V)(H:Hp)(Q:VK)(E9:XK):Prop
 | mk (N n:Nat) (f:Nat->Bool) (pl:Addr) (ps:List Nat) (_:vs=[.int N,.ref pl,.int n]) (_:n<=8) (_:z9 n N f) (_:zP K H pl (ps.map fun p=>V.int (p:Nat))) (_:(∀p∈ps,p<n)) (_:ps.length<=1000) (_:∀(l:Addr) (H':Hp),Same H H'->H l=none->H' l=some (.lst (zZ (fvP n f ps)))->Q (.ref l) H'):Vv K vs H Q E9
inductive Nh (vs:List V)(H:Hp)(Q:VK)(E9:XK):Prop
 | mk (N n:Nat) (f:Nat->Bool) (_:vs=[.int N,.int n]) (_:n<=8) (_:z9 n N f) (_:anyB n f=true) (_:∀(l:Addr) (H':Hp) (r:List Bool),Same H H'->H l=none->H' l=some (.lst (zZ r))->((allR n).filter fun r=>f (zx r)).head?=some r->Q (.ref l) H'):Nh vs H Q E9
end xV
namespace L2
open PySem PySem.Spec PyProof.Rows
section
variable {X:Cx}
def tLV (to:TE):TE:=fun σ H Q=>to σ H fun x H1=>∃(d:Addr) (kvs:List (Key×V)),x=.ref d/\H1 d=some (.dK kvs)/\∀l,H1 l=none->Q (.ref l) (upd H1 l (.lst (kvs.map (·.2))))
theorem Jp {o:Expr}{to:TE}{p apos cpos pos:Pos}(hc:X.calm=true)(hg:Gl X "list")(hm:X.mg "list"=none)(ho:PE X o to)
  (hbase:attributeBase o "values" X.env (eval o X.env)=eval o X.env:=by rfl)(hline:(apos.endLine==cpos.line)=true:=by rfl)
  (hs2:starEach [.Call (.Attribute o "values" apos) [] [] cpos] X.env=[(false,eval (.Call (.Attribute o "values" apos) [] [] cpos) X.env)]:=by rfl) :
  PE X (.Call (.Name "list" p) [.Call (.Attribute o "values" apos) [] [] cpos] [] pos) (tLV to):=by
 intro pins s σ H Q I h
 refine wpAny_Call_Name_kw (Wd I hg hm Qj ?_ (by decide) (by decide))
 refine PyProof.Rows.callWith_type1 ?_ hs2 rfl
 rw[hs2]
 show wpAny _ _ (spliced ((false,eval (.Call (.Attribute o "values" apos) [] [] cpos) X.env)::[])) _ _ s
 refine Calls.spliced_cons ?_
 refine wpAny_Call_method0_late hbase hline (wD (ho pins s σ H _ I h) fun v s1 ⟨x,H1,I1,r1,q1⟩=>?_)
 obtain⟨d,kvs,rfl,hd,q⟩:=q1
 obtain⟨h1,h2⟩:=zcZ (T := "dict") I1 r1 (.inr (.inr (.inl ⟨rfl,.inl ⟨kvs,hd⟩⟩)))
 cases r1
 obtain⟨hz,lo,vs,rv,hD⟩:=(show kvs.length<=sizeLine/\(d==sysModules)=false/\∃vs,KV kvs vs/\s1.heap.DictOf (yx X.prog X.w) d vs from I1.hok d _ hd)
 obtain⟨ep,hat⟩:=hD.dictAt
 have hl:kvs.length=vs.length:=Paired.length rv
 refine⟨"dict", "dict.values", PySem.F.plainAttrs_dict,PySem.F.slot_dict_values,PySem.F.type_dict_values,h1,h2,Calls.callWith_builtin rfl (PySem.evalArgs_none ?_)⟩
 refine call_meetsIn PySem.F.slot_dict_values hD.typeIs PySem.F.entry_dict_values (PySem.F.args_dict_values_1 _) (meets_dict_values (yx X.prog X.w) d lo) ⟨⟨vs,hD⟩,Calls.spliced_nil ?_⟩
 have I2:=I1.kept (t':=s1.toks) (h':=s1.heap.push { cls:=.type "dict_values", data:=.fields #[.ref d] }) fun b o e=>zti _ e
 obtain⟨hz2,lo2,vs2,rv2,hD2⟩:=(show kvs.length<=sizeLine/\(d==sysModules)=false/\∃vs,KV kvs vs/\(s1.heap.push { cls:=.type "dict_values", data:=.fields #[.ref d] }).DictOf (yx X.prog X.w) d vs from I2.hok d _ hd)
 obtain⟨ep2,zf9⟩:=hD2.dictAt
 have hl2:kvs.length=vs2.length:=Paired.length rv2
 refine PySem.W.kdl_call (PySem.W.kdl_values (knd:=yx X.prog X.w) (r:=s1.heap.objs.size) (d:=d) (kvs:=vs2) (ep:=ep2)) (I1.ok.hd hc) ⟨⟨_,ztx _ rfl,rfl,rfl⟩,zf9⟩ (by omega) fun h' tk acc c hk hS hacc=>?_
 refine⟨.ref _,_,I2.laid (t':=tk) (o:=.lst (kvs.map (·.2))) hk (zts _) ?_,rfl,q _ (I2.hok.fresh (zts _))⟩
 refine⟨by rw[ztc];exact hz,acc.toList,c,?_,by simpa using hS⟩
 refine zaT (by rw[ztc];have:=hacc.1;simp;omega) fun j v hv=>?_
 obtain⟨k,hx⟩:=hacc.2 j v (by rw[<-Array.getElem?_toList];exact hv)
 obtain⟨y,hy,e1,e2⟩:=Jj rv2 hx
 exact⟨y.2,by rw[zte,hy];rfl,e2⟩
end
end L2
namespace L2
open PySem PySem.Spec PyProof.Rows PySem.Builtin PySem.Builtin.Str
section
variable {X:Cx}
def zbL (b:Bool):Str:=⟨#[xV.chc b]⟩
theorem Kz:ZK X (.type "str") (fun xs H Q=>∃b:Bool,xs=[.int (b.toNat:Nat)]/\Q (.str (zbL b)) H):=by
 intro pins s σ H xs us Q I r h
 obtain⟨b,rfl,q⟩:=h
 obtain⟨u,rfl,ru⟩:=vals1 r
 obtain⟨t,rfl⟩:=ru
 have e:∀b:Bool,((toString ((b.toNat:Nat):Int):String):Str)=zbL b:=by decide +kernel
 refine PySem.P.str_of_int (by cases b<;>decide) ?_
 rw[e b]
 exact⟨.str (zbL b),H,I.tok _,⟨_,rfl⟩,q⟩
end
end L2
namespace yN
open PySem xV
def upR (n:Nat)(x:Rm):Bool:=match x with | some (i,_,_)=>decide (i+2<n) | none=>false
def hiN (n:Nat)(rs:List Rm):Nat:=(rs.filter (upR n)).length
theorem zkL {n:Nat}{rs:List Rm}{p lo hi:Nat}:hiN n (rs++[some (p,lo,hi)])=hiN n rs+if p+2<n then 1 else 0:=by
 unfold hiN
 rw[ztQ,ztk]
 congr 1
 by_cases h:p+2<n
 ·rw[if_pos h,List.filter_cons_of_pos (show upR n (some (p,lo,hi))=true from decide_eq_true h)]
  rfl
 ·rw[if_neg h,List.filter_cons_of_neg (show ¬upR n (some (p,lo,hi))=true from fun z=>h (of_decide_eq_true z))]
  rfl
def bH (n u:Nat):Nat:=2^(n-2-u)-1
theorem zkM {n u p:Nat}(h:u<=p):bH n (p+1)+bH n (p+1)+(if p+2<n then 1 else 0)<=bH n u:=by
 unfold bH
 by_cases hp:p+2<n
 ·rw[if_pos hp]
  have e:n-2-p=(n-2-(p+1))+1:=by omega
  have m:2^(n-2-p)<=2^(n-2-u):=ztI (by decide) (by omega)
  have p1:1<=2^(n-2-(p+1)):=Nat.one_le_two_pow
  rw[e,Nat.pow_succ] at m
  omega
 ·rw[if_neg hp,show n-2-(p+1)=0 by omega]
  show 1-1+(1-1)+0<=_
  omega
theorem zpA {n:Nat}(h:n<=8):bH n 0<=63:=by
 have:2^(n-2-0)<=2^6:=ztI (by decide) (by omega)
 have e:2^6=64:=rfl
 unfold bH
 omega
end yN
namespace xV
open PySem L2 yN
section
variable (C:Addr)(K:Frag)
inductive Xf (d:Nat)(vs:List V)(H:Hp)(Q:VK)(E9:XK):Prop
 | mk (b:Addr) (os:List Str) (rs:List Rm) (F:uZ) (t u:Nat) (f:Nat->Bool) (_:vs=[.ref b,.int t]) (_:yV C H b os rs F) (_:rs.length+2^d<=9000000) (_:u<=os.length) (_:os.length+1<=u+d) (_:z9 os.length t f) (_:(∀i,i<u->Free os.length f i)) (_:∀(k:Nat) (rs':List Rm) (H':Hp),zmv F H H'->xr H H'->yV C H' b os rs' F->uI rs rs'->k<rs'.length->(∀r,yes rs' k r=f (bits r os.length))->rs'.length+1<=rs.length+2^d->(∀j,rs.length<=j->j<rs'.length->u<=Kv os.length rs' j)->hiN os.length rs'<=hiN os.length rs+bH os.length u->Q (.int (k:Nat)) H'):Xf d vs H Q E9
def znQ (b:Addr)(os:List Str)(H:Hp)(rs:List Rm)(F:uZ)(f:Row->Bool)(Q:VK):Prop:=∀(k:Nat) (rs':List Rm) (H':Hp),zmv F H H'->xr H H'->yV C H' b os rs' F->uI rs rs'->Means rs' k f->hiN os.length rs'<=hiN os.length rs+63->Q (.int (k:Nat)) H'
inductive zaY (vs:List V)(H:Hp)(Q:VK)(E9:XK):Prop
 | mk (b p:Addr) (os:List Str) (rs:List Rm) (F:uZ) (s:Sn) (_:vs=[.ref b,.ref p]) (_:yV C H b os rs F) (_:rs.length<=8000000) (_:Qo H s p) (_:s.PX os) (_:s.count<=200) (_:s.depth<=24) (_:znQ C b os H rs F (fun r=>s.val (zmw os r)) Q):zaY vs H Q E9
end
structure zh1 (C:Addr)(H0:Hp)(b:Addr)(os:List Str)(m:Nat)(H:Hp)(rs:List Rm)(F:uZ):Prop where
 same:Same H0 H
 away:∀x,F x->H0 x=none
 bk:yV C H b os rs F
 hi:hiN os.length rs<=m
end xV
namespace L2
open PySem PySem.Spec PyProof.Rows
theorem zkN {K:Frag}{a b:Addr}{xs ys:List V}{g:TG}{tb:TS}{D:Ends}{σ:St}{H:Hp}(hlen:xs.length=ys.length)(Pv:Nat->St->Hp->Prop)(h0:Pv 0 σ H)(hl:∀i σ H,i<=xs.length->Pv i σ H->zP K H a xs/\zP K H b ys)
  (hs:∀i x y σ H p,xs[i]?=some x->ys[i]?=some y->Pv i σ H->H p=none->g (.ref p) σ (upd H p (.tup [x,y])) fun σ2 H2=>tb { D with nx:=Pv (i+1),ct:=Pv (i+1),bk:=D.nx } σ2 H2)(hd:∀ σ H,Pv xs.length σ H->D.nx σ H) :
  ∃W:Nat->Nat->St->Hp->Prop,(∃m,W 0 m σ H)/\∀i m σ H,W i m σ H ->
   ((Itz K a b).stop i H/\D.nx σ H)\/((Itz K a b).go i H/\∃N:St->Hp->Prop,(∀ σ' H',N σ' H'->∃m',m'<m/\W (i+1) m' σ' H')/\∀x H',(Itz K a b).Qe i H x H'->g x σ H' fun σ2 H2=>tb { D with nx:=N,ct:=N,bk:=D.nx } σ2 H2):=by
 refine⟨fun i m σ H=>m=xs.length-i/\i<=xs.length/\Pv i σ H,⟨xs.length,by simp,ztz _,h0⟩,?_⟩
 rintro i m σ H ⟨rfl,hi,p⟩
 obtain⟨q,q'⟩:=hl i σ H hi p
 by_cases hlt:i<xs.length
 ·refine .inr ⟨⟨xs,ys,_,_,q,q',ztd hlt,ztd (l:=ys) (i:=i) (by omega)⟩,Pv (i+1),fun σ' H' p'=>⟨xs.length-(i+1),by omega,rfl,hlt,p'⟩,fun x H' y=>?_⟩
  obtain⟨pp,u,v,hu,hv,rfl,hn,rfl⟩:=y
  exact hs i u v σ H pp (hu xs q) (hv ys q') p hn
 ·have e:i=xs.length:=by omega
  subst e
  exact .inl ⟨⟨xs,ys,q,q',.inl (zts _)⟩,hd σ H p⟩
theorem zkO {X:Cx}{sc wV:Scope}{x y:Str}{js:List Nat}{elt iter c:Expr}{px py pt pos:Pos}{x1:Nat}{wi:TI}{te:TE}{tt:TT}(Ys:X.env.scope=wV)(L:zcu wV sc x y (js.map fun j=>X.N.getD j ""))(hc:X.calm=true)(hi:PI X (.Tuple [.Name x px,.Name y py] x1 pt) iter wi)(hjs:∀j∈js,j<X.N.length)
  (ht:∀(cl:List (Str×Addr)) (C:Addr) (s₂:Shared) (H₂:Hp) (fp:List Addr),PT (X.blk sc cl C (Ux X [x,y] js) s₂ H₂ fp) c tt)
  (he:∀(cl:List (Str×Addr)) (C:Addr) (s₂:Shared) (H₂:Hp) (fp:List Addr),PE (X.blk sc cl C (Ux X [x,y] js) s₂ H₂ fp) elt te)
  (hs:∀x,foldedSetIterable iter X.env x=pure x:=by intro _;rfl) :
  PE X (.ListComp elt [⟨.Tuple [.Name x px,.Name y py] x1 pt,iter,[c],0⟩] sc pos) (zkk wi [x,y] js (zfB X.K 2 (V0 (uF 0) (V0 (uF 1) zfA))) tt te) :=
 zjg Ys L.g hc hi (fun cl C s₂ H₂ fp=>zdm (X:=X.blk sc cl C (Ux X [x,y] js) s₂ H₂ fp) hc L.nd rfl rfl (lookup_relabel_local L.hx) (lookup_relabel_local L.hy)) hjs (fun cl C s₂ H₂ fp pins s' σ' H' Q I h=>wpAny_tests_one (ht cl C s₂ H₂ fp pins s' σ' H' Q I h)) he hs
end L2
namespace xV
open PySem L2 yN
def XD (ps:List Nat):List V:=ps.map fun p=>V.int (p:Nat)
theorem zhh {os:List Str}{x:Str}:inV (.str x) (os.map V.str)=os.contains x:=by
 unfold inV
 rw[List.any_map]
 induction os with
 | nil=>rfl
 | cons a l ih =>
  rw[List.any_cons,List.contains_cons,ih]
  show((a==x)||l.contains x)=((x==a)||l.contains x)
  rw[Bool.beq_comm]
theorem zhi {a b:Nat}(h:∀i,a.testBit i=b.testBit i):a=b:=Nat.eq_of_testBit_eq h
end xV
namespace L2
open PySem PySem.Spec PyProof.Rows PySem.W
section
variable {X:Cx}
theorem zaZ {K:Frag}(h:X.K=K):Uu X (binaryOp .Add) (zlD K):=by subst h;exact U3
end
end L2
namespace xV
open PySem L2 yN
theorem zjl {K:Frag}{H:Hp}{n:Nat}{p q:Addr}{xs:List V}(hp:zP K H p xs)(hq:zP K H q xs)(hf:∀x∈xs,wC x=true):S7 K H (n+1) (.ref p) (.ref q) true :=
 znK hp hq rfl fun j x y hx hy=>by
  rw[hx] at hy
  cases hy
  exact zkI (hf x (zth hx))
end xV
namespace PySem
open Sem (wp)
namespace F
theorem zga:typeLookup (.type "str") "__int__"=pure none:=by rw[typeLookup_type,builtinLookup_eq_fast];kernel_rfl
theorem zdo:typeLookup (.type "str") "__index__"=pure none:=by rw[typeLookup_type,builtinLookup_eq_fast];kernel_rfl
theorem zdp:typeLookup (.type "str") "__trunc__"=pure none:=by rw[typeLookup_type,builtinLookup_eq_fast];kernel_rfl
end F
theorem MP (c:Str)(x:Nat)(n:Int)(u:Tok)(hA:(c.cps.all fun x=>decide (x<128))=true)(hL:c.cps.toList=[x])(hx:x=48/\n=0\/x=49/\n=1):Meets (Builtin.«int.__new__» ⟨[.type "int", .str c u],[]⟩) (Made.int n).spec :=
 Meets.of_wp fun prog w A R s hs=>by
  obtain⟨hp,g,d,tk,os⟩:=s
  have f1:=F.conv_sub_int
  have f2:=F.madeHere_int
  have hT:(⟨hp,g,d,tk,os⟩:Shared).TypeIs (.str c u) "str" := rfl
  have f3:=F.zga
  have f4:=F.zdo
  have f5:=F.zdp
  repeat (any_goals (first | assumption | wp_step))
  rw[if_pos hA,hL]
  rcases hx with ⟨rfl,rfl⟩ | ⟨rfl,rfl⟩
  ·rw[if_pos (by decide)]
   refine wpAny_bind (wpAny_pure ?_)
   show wpAny _ _ (mkInt 0) _ _ _
   repeat (any_goals (first | assumption | wp_step))
   all_goals first | exact⟨_,rfl,hs⟩ | skip
  ·rw[if_pos (by decide)]
   refine wpAny_bind (wpAny_pure ?_)
   show wpAny _ _ (mkInt 1) _ _ _
   repeat (any_goals (first | assumption | wp_step))
   all_goals first | exact⟨_,rfl,hs⟩ | skip
end PySem
namespace L2
open PySem PySem.Spec PyProof.Rows PySem.W
section
variable {X:Cx}
theorem zh2:ZK X (.type "int") (fun xs H Q=>∃b:Bool,xs=[.str (zbL b)]/\Q (.int (b.toNat:Nat)) H):=by
 intro pins s σ H xs us Q I r h
 obtain⟨b,rfl,q⟩:=h
 obtain⟨u,rfl,t,rfl⟩:=vals1 r
 have m:Meets (Builtin.«int.__new__» ⟨[.type "int", .str (zbL b) t],[]⟩) (Made.int ((b.toNat:Nat):Int)).spec:=MP (zbL b) (xV.chc b) _ t (by cases b<;>decide +kernel) rfl (by cases b;exact .inl ⟨rfl,rfl⟩;exact .inr ⟨rfl,rfl⟩)
 exact call_int_1 m (show(Made.int ((b.toNat:Nat):Int)).post _ s from ⟨rfl,⟨.int (b.toNat:Nat),H,I.tok _,⟨_,rfl⟩,q⟩⟩)
end
end L2
namespace yN
open PySem L2
theorem Pa (R:Row):∀n,(List.range n).map R∈allR n
 | 0=>by simp[allR]
 | n+1=>by
  rw[List.range_succ,ztq,List.map_singleton]
  refine List.mem_flatMap.mpr ⟨_,Pa R n,?_⟩
  cases R n<;>simp
end yN
namespace xV
open PySem L2 yN
theorem Qy {n p:Nat}{f:Nat->Bool}{v:Bool}(hp:p<n)(fr:∀i,i<p->Free n f i):∀i,i<p+1->Free n (fun b=>f (zQ b p v)) i:=fun i hi b hb u=>by
 show f (zQ (zQ b i u) p v)=f (zQ b p v)
 by_cases e:i=p
 ·subst e
  congr 1
  refine ZW (zW (zW hb hp) hp) (zW hb hp) fun j _=>?_
  rw[zU,zU,zU]
  by_cases e:j=i
  ·rw[if_pos e,if_pos e]
  ·rw[if_neg e,if_neg e,if_neg e]
 ·have hi':i<p:=by omega
  rw[<-fr i hi' (zQ b p v) (zW hb hp) u]
  congr 1
  refine ZW (zW (zW hb (by omega)) hp) (zW (zW hb hp) (by omega)) fun j _=>?_
  rw[zU,zU,zU,zU]
  by_cases e1:j=p
  ·rw[if_pos e1,if_pos e1,if_neg (by omega)]
  ·rw[if_neg e1,if_neg e1]
theorem zjm {x:List Bool}{j:Nat}{v:V}(h:(zZ x)[j]?=some v):∃b,x[j]?=some b/\v=.int (b.toNat:Nat):=by
 unfold zZ at h
 rw[zte] at h
 cases hx:x[j]? with
 | none=>rw[hx] at h;cases h
 | some b=>rw[hx] at h;exact⟨b,rfl,(ztH h).symm⟩
theorem Ri (x:List Bool):(zZ x).length=x.length:=ztc _
theorem zjn {K:Frag}{H:Hp}{n:Nat}{p q:Addr}{x y:List Bool}(hp:zP K H p (zZ x))(hq:zP K H q (zZ y)):S7 K H (n+1) (.ref p) (.ref q) (decide (x=y)):=by
 by_cases hl:x.length=y.length
 ·have z:=S7.ll (n:=n) (e:=fun j=>x[j]?==y[j]?) hp hq (by rw[Ri,Ri,hl]) fun j u v hu hv=>by
   obtain⟨b,hb,rfl⟩:=zjm hu
   obtain⟨c,hc,rfl⟩:=zjm hv
   rw[hb,hc]
   have:eqV (.int (b.toNat:Nat)) (.int (c.toNat:Nat))=(some b==some c):=by cases b<;>cases c<;>rfl
   rw[<-this]
   exact .flat rfl rfl
  have e:((List.range (zZ x).length).all fun j=>x[j]?==y[j]?)=decide (x=y):=by
   rw[Ri]
   by_cases h:x=y
   ·subst h
    rw[decide_eq_true rfl,ztG]
    exact fun j _=>by simp
   ·rw[decide_eq_false h]
    cases hc:(List.range x.length).all fun j=>x[j]?==y[j]? with
    | false=>rfl
    | true =>
     exfalso
     rw[ztG] at hc
     refine h (List.ext_getElem? fun j=>?_)
     by_cases hj:j<x.length
     ·exact eq_of_beq (hc j (List.mem_range.mpr hj))
     ·rw[ztM (by omega),ztM (by omega)]
  rw[e] at z
  exact z
 ·rw[decide_eq_false (fun z=>hl (by rw[z]))]
  exact .ln hp hq (by rw[Ri,Ri];exact hl)
open Classical in
noncomputable def Pb (H:Hp) (r:List Bool) (z:V):Bool:=decide (∃p,z=V.ref p/\H p=some (.lst (zZ r)))
theorem zcy {H:Hp}{r:List Bool}{z:V}:Pb H r z=true↔∃p,z=V.ref p/\H p=some (.lst (zZ r)):=by
 unfold Pb
 exact @decide_eq_true_iff _ (Classical.propDecidable _)
theorem zeH {H:Hp}{r x:List Bool}{p:Addr}(h:H p=some (.lst (zZ x))):Pb H r (.ref p)=decide (x=r):=by
 by_cases e:x=r
 ·rw[decide_eq_true e]
  exact zcy.mpr ⟨p,rfl,e ▸ h⟩
 ·rw[decide_eq_false e]
  cases hc:Pb H r (.ref p) with
  | false=>rfl
  | true =>
   exfalso
   obtain⟨q,hq,h2⟩:=zcy.mp hc
   cases hq
   rw[h] at h2
   injection h2 with h2
   injection h2 with h2
   exact e (zjk h2)
theorem KC {H:Hp}{r:List Bool}:∀{qs:List Addr} {xs:List (List Bool)},Paired (fun q r=>H q=some (.lst (zZ r))) qs xs->(qs.map V.ref).any (Pb H r)=decide (r∈xs)
 | [],[],.nil=>rfl
 | q::qs,x::xs,.cons h hs=>by
  rw[ztB,List.any_cons,KC hs,zeH h]
  by_cases e:x=r
  ·have e2:r∈x::xs:=by rw[e];exact ztw
   rw[decide_eq_true e,decide_eq_true e2];rfl
  ·rw[decide_eq_false e,Bool.false_or]
   refine decide_eq_decide.mpr ?_
   rw[List.mem_cons]
   exact⟨.inr,fun z=>z.elim (fun w=>absurd w.symm e) id⟩
end xV
namespace L2
open PySem PySem.Spec PyProof.Rows
theorem zgb {α β:Type}{R:α->β->Prop}:∀{xs:List α} {ys:List β},xs.length=ys.length->(∀(j:Nat) x y,xs[j]?=some x->ys[j]?=some y->R x y)->Paired R xs ys
 | [],[],_,_=>.nil
 | [],_::_,e,_=>by cases e
 | _::_,[],e,_=>by cases e
 | x::xs,y::ys,e,h=>.cons (h 0 x y rfl rfl) (zgb (Nat.succ.inj e) fun j a b h1 h2=>h (j+1) a b h1 h2)
section
variable {X:Cx}{pins:List (Addr×Obj)}{σ:St}{H:Hp}{s:Shared}
theorem Inv.held {d:Addr}{kvs:List (Key×V)}{o:Obj}(I:Inv X pins σ H s)(e:H d=some (.dK kvs))(ho:s.heap.get? d=some o):Inv X pins σ (upd H d (.frz o (.dK kvs))) s :=
 I.write (t':=s.toks) (h':=s.heap) (by rw[e];exact trivial) (.inl rfl) (fun _ _ _ q=>q) ⟨o,ho⟩ ⟨ho,I.hok d _ e⟩
end
theorem zhj {P:Program}{w:World}{h h':Heap}{d:Addr}{o:Obj}{vs vs':List (Key×Value)}{ep ep':Nat}(ho:h.get? d=some o)(hd:h'.get? d=some o)(x:h.DictAt (yx P w) d vs ep)(x':h'.DictAt (yx P w) d vs' ep'):ep'=ep:=by
 obtain⟨o1,es1,ho1,_,znR,_⟩:=x
 obtain⟨o2,es2,ho2,_,zlF,_⟩:=x'
 rw[ho] at ho1
 cases ho1
 rw[hd] at ho2
 cases ho2
 rw[znR] at zlF
 cases zlF
 rfl
end L2
namespace xV
open PySem L2 yN
theorem Qz {n j:Nat}(h:j<n):ixN n (j:Int)=some j:=by
 unfold ixN
 rw[if_pos (by omega),if_pos (by omega),ztP]
theorem zdq {α:Type}{xs:List α}{i:Nat}{y z:α}(h:z∈xs.take i++y::xs.drop i):z=y\/z∈xs:=by
 rcases List.mem_append.mp h with e | e
 ·exact .inr (List.mem_of_mem_take e)
 ·rcases List.mem_cons.mp e with e | e
  ·exact .inl e
  ·exact .inr (List.mem_of_mem_drop e)
theorem zdr {α:Type}{xs:List α}{i:Nat}{y:α}:(xs.take i++y::xs.drop i).length=xs.length+1:=by
 rw[ztk,zto,ztA,List.length_drop]
 omega
theorem zds {α β:Type}{f:α->β}{xs:List α}{i:Nat}{y:α}:(xs.map f).take i++f y::(xs.map f).drop i=(xs.take i++y::xs.drop i).map f:=by
 rw[ztq,ztB,List.map_take,List.map_drop]
theorem zdu {α β:Type}{f:α->β}:∀{xs:List α} {i:Nat},(xs.map f).eraseIdx i=(xs.eraseIdx i).map f
 | [],_=>rfl
 | _::_,0=>rfl
 | x::xs,i+1=>congrArg (f x::·) (zdu (xs:=xs) (i:=i))
end xV
namespace L2
open PySem PySem.Spec PyProof.Rows
section
variable {X:Cx}
def zpB:V->Option Int->Option Int->Hp->VK->Prop:=fun x lo hi H Q=>∃z:Str,x=.str z/\z.length<=sizeLine/\Q (.str (Txt.slice z lo hi)) H
theorem Rj:SlR X zpB:=by
 intro pins s σ H x v vl vu lo hi sl Q I rx hs pl pu h
 obtain⟨z,rfl,hz,q⟩:=h
 obtain⟨t,rfl⟩:=rx
 refine⟨"str", _,PySem.F.slot_str_getitem.lookup,typeIs_str _ _ _,?_⟩
 have fin:∀(t':Tok) (k:Nat),EP X pins σ Q (.str (Txt.slice z lo hi) t') { s with toks:=k }:=fun t' k=>⟨.str (Txt.slice z lo hi),H,I.tok _,⟨t',rfl⟩,q⟩
 cases pl with
 | none=>cases pu with
  | none=>exact wpAny_getItem_str_slice (l:=none) (u:=none) (st:=none) hs rfl (post_val_or_str ⟨zty (Txt.slice_le z _ _) hz,fin⟩)
  | int j uj=>exact wpAny_getItem_str_slice (l:=none) (u:=some (j,uj)) (st:=none) hs rfl (post_val_or_str ⟨zty (Txt.slice_le z _ _) hz,fin⟩)
 | int i ui=>cases pu with
  | none=>exact wpAny_getItem_str_slice (l:=some (i,ui)) (u:=none) (st:=none) hs rfl (post_val_or_str ⟨zty (Txt.slice_le z _ _) hz,fin⟩)
  | int j uj=>exact wpAny_getItem_str_slice (l:=some (i,ui)) (u:=some (j,uj)) (st:=none) hs rfl (post_val_or_str ⟨zty (Txt.slice_le z _ _) hz,fin⟩)
end
end L2
namespace xV
open PySem L2 yN
section
variable {os:List Str}{t:Nat->Bool}
theorem zgc {x:List Nat}{j:Nat}{v:V}(h:(XD x)[j]?=some v):∃b,x[j]?=some b/\v=.int (b:Nat):=by
 unfold XD at h
 rw[zte] at h
 cases hx:x[j]? with
 | none=>rw[hx] at h;cases h
 | some b=>rw[hx] at h;exact⟨b,rfl,(ztH h).symm⟩
theorem Xg (x:List Nat):(XD x).length=x.length:=ztc _
theorem zjo {K:Frag}{H:Hp}{n:Nat}{p q:Addr}{x y:List Nat}(hp:zP K H p (XD x))(hq:zP K H q (XD y)):S7 K H (n+1) (.ref p) (.ref q) (decide (x=y)):=by
 by_cases hl:x.length=y.length
 ·have z:=S7.ll (n:=n) (e:=fun j=>x[j]?==y[j]?) hp hq (by rw[Xg,Xg,hl]) fun j u v hu hv=>by
   obtain⟨b,hb,rfl⟩:=zgc hu
   obtain⟨c,hc,rfl⟩:=zgc hv
   rw[hb,hc]
   have:eqV (.int (b:Nat)) (.int (c:Nat))=(some b==some c):=by
    show(((b:Nat):Int)==((c:Nat):Int))=(some b==some c)
    by_cases e:b=c
    ·subst e;simp
    ·have e':¬((b:Nat):Int)=((c:Nat):Int):=by omega
     rw[beq_eq_false_iff_ne.mpr e',beq_eq_false_iff_ne.mpr (fun z=>e (ztH z))]
   rw[<-this]
   exact .flat rfl rfl
  have e:((List.range (XD x).length).all fun j=>x[j]?==y[j]?)=decide (x=y):=by
   rw[Xg]
   by_cases h:x=y
   ·subst h
    rw[decide_eq_true rfl,ztG]
    exact fun j _=>by simp
   ·rw[decide_eq_false h]
    cases hc:(List.range x.length).all fun j=>x[j]?==y[j]? with
    | false=>rfl
    | true =>
     exfalso
     refine h (List.ext_getElem? fun j=>?_)
     by_cases hj:j<x.length
     ·exact eq_of_beq (ztG.mp hc j (List.mem_range.mpr hj))
     ·rw[ztM (by omega),ztM (by omega)]
  rw[e] at z
  exact z
 ·rw[decide_eq_false fun e=>hl (by rw[e])]
  exact .ln hp hq (by rw[Xg,Xg];exact hl)
end
section
variable (C:Addr)(K:Frag)
def tB (rs:List Rm)(k:Nat):Nat->Bool:=fun b=>yes rs k (JM b)
end
theorem zh1.rise {C:Addr}{H0:Hp}{b:Addr}{os:List Str}{m n:Nat}{H:Hp}{rs:List Rm}{F:uZ}(h:zh1 C H0 b os m H rs F){H':Hp}{rs':List Rm}(aw:zmv F H H')(hB:yV C H' b os rs' F)(hh:hiN os.length rs'<=hiN os.length rs+n):zh1 C H0 b os (m+n) H' rs' F :=
 ⟨fun x o e=>aw x o (h.same _ _ e) fun z=>(by have:=h.away x z;rw[this] at e;cases e),h.away,hB,zty hh (Nat.add_le_add_right h.hi _)⟩
section
variable {os:List Str}
variable {t:Nat->Bool}
theorem zkP {n N M:Nat}{f g:Nat->Bool}(a:z9 n N f)(b:z9 n M g):z9 n (N&&&M) fun c=>f c&&g c:=fun c=>by
 rw[Nat.testBit_and,a c,b c]
 cases decide (c<2^n)<;>simp
end
def hav (l:List (Nat×Bool))(b:Nat):Bool:=l.all fun x=>b.testBit x.1==x.2
theorem zjp {α β:Type}{R:α->β->Prop}:∀{xs:List α} {ys:List β},Paired R xs ys->Paired R xs.reverse ys.reverse
 | _,_,.nil=>.nil
 | _,_,.cons h hs=>by
  rw[List.reverse_cons,List.reverse_cons]
  exact Xn (zjp hs) (.cons h .nil)
section
variable (C:Addr)(K:Frag)
inductive U4 (vs:List V)(H:Hp)(Q:VK)(E9:XK):Prop
 | mk (pl rl:Addr) (n:Nat) (ps:List Nat) (r:List Bool) (_:vs=[.ref pl,.ref rl,.int (n:Nat)]) (_:n<=8) (_:zP K H pl (XD ps)) (_:zP K H rl (zZ r)) (_:(∀p∈ps,p<n)) (_:ps.length=r.length) (_:ps.length<=8) (_:∀(R:Nat) (H':Hp),Same H H'->z9 n R (hav (ps.zip r))->Q (.int (R:Nat)) H'):U4 vs H Q E9
end
theorem list_range (r:List Bool):(List.range r.length).map (znN r)=r:=by
 refine List.ext_getElem? fun i=>?_
 rw[zte]
 rcases Nat.lt_or_ge i r.length with z | z
 ·rw[List.getElem?_range z,ztd z]
  show some (r.getD i false)=_
  rw[ztp,ztd z]
  rfl
 ·rw[ztM (by rw[ztu];exact z),ztM z]
  rfl
theorem za0 (r:List Bool):r∈allR r.length:=by
 have:=Pa (znN r) r.length
 rwa [list_range] at this
end xV
namespace L2
open PySem
section
variable {K:Frag}{σ:St}{js:List Nat}{tt:TT}{te:TE}{H:Hp}{Qf:Addr->Hp->List V->Prop}
open xV
theorem zjq {n:Nat}(p:Nat->Bool)(hz:n<=sizeLine)(hte:∀x H' Q,Q x H'->te (Zx σ js (some x)) H' Q)
  (hs:∀(i:Nat) H' (Q:Bool->Hp->Prop),i<n->Same H H'->(∀H2,Same H H2->Q (p i) H2)->tt (Zx σ js (some (.int ((0:Int)+i)))) H' Q)
  (hd:∀H' l,Same H H'->H' l=none->Qf l H' (XD ((List.range n).filter p))) :
  ∃W:Nat->Nat->List V->Hp->Prop,(∃m,W 0 m [] H)/\∀i m ys H,W i m ys H ->
   ((Itr 0 n).stop i H/\∀p,H p=none->Qf p H ys) \/
   ((Itr 0 n).go i H/\ys.length<sizeLine/\∀x H',(Itr 0 n).Qe i H x H'->tt (Zx σ js (some x)) H' fun b H2 =>
    if b=true then te (Zx σ js (some x)) H2 fun v H3=>∃m',m'<m/\W (i+1) m' (ys++[v]) H3 else ∃m',m'<m/\W (i+1) m' ys H2):=by
 refine⟨fun i m ys H'=>m=n-i/\i<=n/\Same H H'/\ys=XD ((List.range i).filter p),⟨n,by simp,ztz _,Same.refl _,rfl⟩,?_⟩
 rintro i m ys H1 ⟨rfl,hi,g,rfl⟩
 have hy:(XD ((List.range i).filter p)).length<=i:=by
  have:=ztL p (List.range i)
  rw[ztu] at this
  unfold XD
  rw[ztc]
  exact this
 by_cases hlt:i<n
 ·refine .inr ⟨hlt,by omega,fun x H' y=>?_⟩
  obtain⟨e,y⟩:=y
  subst e y
  refine hs i _ _ hlt g fun H2 g2=>?_
  cases e:p i with
  | true =>
   rw[if_pos rfl]
   refine hte _ _ _ ⟨_,Nat.sub_lt_sub_left hlt (Nat.lt_succ_self i),rfl,hlt,g2,?_⟩
   rw[List.range_succ,ztQ,List.filter_cons_of_pos e]
   unfold XD
   rw[ztq]
   show _++[V.int ((0:Int)+(i:Nat))]=_++[V.int (i:Nat)]
   rw[Int.zero_add]
  | false =>
   rw[if_neg ztg]
   refine⟨_,Nat.sub_lt_sub_left hlt (Nat.lt_succ_self i),rfl,hlt,g2,?_⟩
   rw[List.range_succ,ztQ,List.filter_cons_of_neg (by rw[e];exact ztg),List.filter_nil,List.append_nil]
 ·have e:i=n:=by omega
  subst e
  exact .inl ⟨zts _,fun l hl=>hd _ l g hl⟩
theorem Rk {a:Addr}{xs:List V}(Pv:Nat->List V->Hp->Prop)(h0:Pv 0 [] H)(hz:xs.length<=sizeLine)
  (hl:∀i ys H,i<=xs.length->Pv i ys H->zP K H a xs/\ys.length<=i)
  (hs:∀i x ys H (Q:V->Hp->Prop),xs[i]?=some x->Pv i ys H->(∀v H3,Pv (i+1) (ys++[v]) H3->Q v H3)->te (Zx σ js (some x)) H Q)
  (hd:∀ys H p,Pv xs.length ys H->H p=none->Qf p H ys) :
  ∃W:Nat->Nat->List V->Hp->Prop,(∃m,W 0 m [] H)/\∀i m ys H,W i m ys H ->
   ((Itl K a).stop i H/\∀p,H p=none->Qf p H ys) \/
   ((Itl K a).go i H/\ys.length<sizeLine/\∀x H',(Itl K a).Qe i H x H'->Sv (Zx σ js (some x)) H' fun b H2 =>
    if b=true then te (Zx σ js (some x)) H2 fun v H3=>∃m',m'<m/\W (i+1) m' (ys++[v]) H3 else ∃m',m'<m/\W (i+1) m' ys H2):=by
 refine⟨fun i m ys H=>m=xs.length-i/\i<=xs.length/\Pv i ys H,⟨xs.length,by simp,ztz _,h0⟩,?_⟩
 rintro i m ys H ⟨rfl,hi,p⟩
 obtain⟨q,hy⟩:=hl i ys H hi p
 by_cases hlt:i<xs.length
 ·refine .inr ⟨⟨xs,xs[i],q,by simp[hlt]⟩,by omega,fun x H' y=>?_⟩
  obtain⟨e,y⟩:=y
  subst e
  show te (Zx σ js (some x)) H' fun v H3=>∃m',m'<xs.length-i/\(m'=xs.length-(i+1)/\i+1<=xs.length/\Pv (i+1) (ys++[v]) H3)
  exact hs i x ys _ _ (y xs q) p fun v H3 h3=>⟨_,Nat.sub_lt_sub_left hlt (Nat.lt_succ_self i),rfl,hlt,h3⟩
 ·have e:i=xs.length:=by omega
  subst e
  exact .inl ⟨⟨xs,q,zts _⟩,fun pp hp=>hd ys H pp p hp⟩
end
end L2
namespace xV
open PySem L2 yN
theorem zh1.made {C:Addr}{H0 H':Hp}{bk dx:Addr}{os:List Str}{F:uZ}{o1 o2:HO}(hbk:H0 bk=none)(hdx:H0 dx=none)(hne:dx≠bk)(keep:∀x o,upd (upd H0 dx o1) bk o2 x=some o->x≠bk->H' x=some o)
  (hB:yV C H' bk os [none,none] F)(hF:∀x,F x->x=bk\/x=dx\/upd (upd H0 dx o1) bk o2 x=none):zh1 C H0 bk os 0 H' [none,none] F:=by
 refine⟨fun x o e=>keep x o (by rw[zG (zA e hbk),zG (zA e hdx)];exact e) (zA e hbk),fun x hx=>?_,hB,zts _⟩
 rcases hF x hx with z | z | z
 ·rw[z];exact hbk
 ·rw[z];exact hdx
 ·by_cases e1:x=bk
  ·rw[e1] at z;rw[zf] at z;cases z
  ·by_cases e2:x=dx
   ·rw[e2,zG hne,zf] at z;cases z
   ·rw[zG e1,zG e2] at z;exact z
end xV
namespace L2
open PySem PySem.Spec PyProof.Rows
theorem zmA:bootBuiltins "any"=some (.builtin "any"):=by decide +kernel
theorem zbM (bs:List Bool):((List.range bs.length).any fun i=>(bs[i]?).getD true)=bs.any id:=by
 rw[ztS,List.any_eq_true,List.any_eq_true]
 constructor
 ·rintro⟨i,hi,e⟩
  have hi':=List.mem_range.mp hi
  rw[ztd hi',Option.getD_some] at e
  exact⟨_,ztT hi',e⟩
 ·rintro⟨b,hb,e⟩
  obtain⟨i,hi,eb⟩:=ztU hb
  refine⟨i,List.mem_range.mpr hi,?_⟩
  rw[ztd hi,Option.getD_some,eb]
  exact e
section
variable {X:Cx}
theorem zjr (hc:X.calm=true):ZK X (.builtin "any") (fun xs H Q=>∃(p:Addr) (bs:List Bool),xs=[.ref p]/\zP X.K H p (bs.map V.bl)/\Q (.bl (bs.any id)) H):=by
 intro pins s σ H xs us Q I r h
 obtain⟨p,bs,rfl,hq,q⟩:=h
 obtain⟨u,rfl,rx⟩:=vals1 r
 cases rx
 obtain⟨its,r',pl,hz⟩:=I.list hq
 have hlen:bs.length=its.length:=by have:=r'.length;rw[ztc] at this;exact this
 have hlt:p<s.heap.objs.size:=by obtain⟨_,e,_⟩:=pl.isList;exact ztj e
 refine call_any_walk (wpAny_pyIter_list pl.isList ?_)
 refine⟨s.heap.objs.size,[s.heap.objs.size,p],[s.heap.objs.size],its.toArray.size,_,_,fun i=>(bs[i]?).getD true,rfl,Walks.list (A:=X.A.in1) (I.ok.hd hc) _ p (ztr hlt) its.toArray,
  ⟨⟨_,ztx _ rfl,rfl,rfl⟩,pl.isList.push _⟩,fun i v s' Q' E' hP hQ=>?_,fun h' tk hk=>?_⟩
 ·have hP':its[i]?=some v:=by simpa using hP
  have hi:i<bs.length:=by
   have:=(ztf.mp hP').1
   omega
  obtain⟨w,hw,rw'⟩:=r'.get (i:=i) (x:=.bl bs[i]) (by rw[zte,ztd hi];rfl)
  rw[hP'] at hw
  cases hw
  cases rw'
  simp only[ztd hi,Option.getD_some] at hQ
  exact wpAny_truthy_bool hQ
 ·have kp:∀b o,s.heap.get? b=some o->h'.get? b=some o:=fun b o e=>hk b o (fun hm=>by
   rw[List.mem_singleton.mp hm] at e
   exact Nat.lt_irrefl _ (ztj e)) (zti _ e)
  refine⟨.bl _,H,I.kept kp,rfl,?_⟩
  rw[ztm,<-hlen,zbM]
  exact q
end
section
variable {K:Frag}{σ:St}{js:List Nat}{te:TE}{H:Hp}{Qf:Addr->Hp->List V->Prop}
open xV
theorem zkQ {n:Nat}(f:Nat->V)(hz:n<=sizeLine)
  (hs:∀(i:Nat) H' (Q:V->Hp->Prop),i<n->Same H H'->(∀H3,Same H' H3->Q (f i) H3)->te (Zx σ js (some (.int ((0:Int)+i)))) H' Q)
  (hd:∀H' p,Same H H'->H' p=none->Qf p H' ((List.range n).map f)) :
  ∃W:Nat->Nat->List V->Hp->Prop,(∃m,W 0 m [] H)/\∀i m ys H,W i m ys H ->
   ((Itr 0 n).stop i H/\∀p,H p=none->Qf p H ys) \/
   ((Itr 0 n).go i H/\ys.length<sizeLine/\∀x H',(Itr 0 n).Qe i H x H'->Sv (Zx σ js (some x)) H' fun b H2 =>
    if b=true then te (Zx σ js (some x)) H2 fun v H3=>∃m',m'<m/\W (i+1) m' (ys++[v]) H3 else ∃m',m'<m/\W (i+1) m' ys H2):=by
 refine⟨fun i m ys H'=>m=n-i/\i<=n/\Same H H'/\ys=(List.range i).map f,⟨n,by simp,ztz _,Same.refl _,rfl⟩,?_⟩
 rintro i m ys H1 ⟨rfl,hi,g,rfl⟩
 by_cases hlt:i<n
 ·refine .inr ⟨hlt,by rw[ztc,ztu];omega,fun x H' y=>?_⟩
  obtain⟨e,y⟩:=y
  subst e y
  refine hs i _ _ hlt g fun H3 g3=>⟨_,Nat.sub_lt_sub_left hlt (Nat.lt_succ_self i),rfl,hlt,g.trans g3,?_⟩
  rw[List.range_succ,ztq]
  rfl
 ·have e:i=n:=by omega
  subst e
  exact .inl ⟨zts _,fun l hl=>hd _ l g hl⟩
theorem zkR {a:Addr}{xs:List V}(f:V->V)(hq:zP K H a xs)(hz:xs.length<=sizeLine)
  (hs:∀(i:Nat) x H' (Q:V->Hp->Prop),xs[i]?=some x->Same H H'->(∀H3,Same H' H3->Q (f x) H3)->te (Zx σ js (some x)) H' Q)
  (hd:∀H' p,Same H H'->H' p=none->Qf p H' (xs.map f)) :
  ∃W:Nat->Nat->List V->Hp->Prop,(∃m,W 0 m [] H)/\∀i m ys H,W i m ys H ->
   ((Itl K a).stop i H/\∀p,H p=none->Qf p H ys) \/
   ((Itl K a).go i H/\ys.length<sizeLine/\∀x H',(Itl K a).Qe i H x H'->Sv (Zx σ js (some x)) H' fun b H2 =>
    if b=true then te (Zx σ js (some x)) H2 fun v H3=>∃m',m'<m/\W (i+1) m' (ys++[v]) H3 else ∃m',m'<m/\W (i+1) m' ys H2):=by
 refine Rk (xs:=xs) (fun i ys H'=>Same H H'/\ys=(xs.take i).map f) ⟨Same.refl _,rfl⟩ hz ?_ ?_ ?_
 ·rintro i ys H' hi ⟨g,rfl⟩
  exact⟨g.seq hq,by rw[ztc,ztA];omega⟩
 ·rintro i x ys H' Q0 hx ⟨g,rfl⟩ hQ
  refine hs i x H' Q0 hx g fun H3 g3=>hQ _ _ ⟨g.trans g3,?_⟩
  rw[yj hx,ztq]
  rfl
 ·rintro ys H' p ⟨g,rfl⟩ hp
  rw[ztF]
  exact hd H' p g hp
end
theorem zhk:bootBuiltins "repr"=some (.builtin "repr"):=by decide +kernel
end L2
namespace L2
open PySem
theorem zhl {σ:St}{js:List Nat}{te:TE}{H:Hp}{Qf:Addr->Hp->List V->Prop}{n:Nat}(Pv:Nat->List V->Hp->Prop)(h0:Pv 0 [] H)(hz:n<=sizeLine)(hl:∀i ys H,i<=n->Pv i ys H->ys.length<=i)
  (hs:∀(i:Nat) ys H (Q:V->Hp->Prop),i<n->Pv i ys H->(∀v H3,Pv (i+1) (ys++[v]) H3->Q v H3)->te (Zx σ js (some (.int ((0:Int)+i)))) H Q)
  (hd:∀ys H p,Pv n ys H->H p=none->Qf p H ys) :
  ∃W:Nat->Nat->List V->Hp->Prop,(∃m,W 0 m [] H)/\∀i m ys H,W i m ys H ->
   ((Itr 0 n).stop i H/\∀p,H p=none->Qf p H ys) \/
   ((Itr 0 n).go i H/\ys.length<sizeLine/\∀x H',(Itr 0 n).Qe i H x H'->Sv (Zx σ js (some x)) H' fun b H2 =>
    if b=true then te (Zx σ js (some x)) H2 fun v H3=>∃m',m'<m/\W (i+1) m' (ys++[v]) H3 else ∃m',m'<m/\W (i+1) m' ys H2):=by
 refine⟨fun i m ys H=>m=n-i/\i<=n/\Pv i ys H,⟨n,by simp,ztz _,h0⟩,?_⟩
 rintro i m ys H ⟨rfl,hi,p⟩
 have hy:=hl i ys H hi p
 by_cases hlt:i<n
 ·refine .inr ⟨hlt,by omega,fun x H' y=>?_⟩
  obtain⟨e,y⟩:=y
  subst e y
  exact hs i ys _ _ hlt p fun v H3 h3=>⟨_,Nat.sub_lt_sub_left hlt (Nat.lt_succ_self i),rfl,hlt,h3⟩
 ·have e:i=n:=by omega
  subst e
  exact .inl ⟨zts _,fun pp hp=>hd ys H pp p hp⟩
end L2
namespace xV
open PySem L2 yN
theorem zeI {K:Frag}{H:Hp}{r:List Bool}{p:Addr}{qs:List Addr}{xs:List (List Bool)}(hp:Paired (fun q r=>H q=some (.lst (zZ r))) qs xs)(h:zP K H p (zZ r)):∀z∈qs.map V.ref,S7 K H 8 z (.ref p) (Pb H r z):=fun z hz=>by
 obtain⟨q,hq,rfl⟩:=List.mem_map.mp hz
 obtain⟨j,hj⟩:=List.mem_iff_getElem?.mp hq
 obtain⟨x,_,hx⟩:=tO hp hj
 rw[zeH hx]
 exact zjn (zP.of hx) h
end xV
namespace L2
open PySem PySem.Spec PyProof.Rows
section
variable {K:Frag}{σ:St}{js:List Nat}{tt:TT}{te:TE}{H:Hp}{Qf:Addr->Hp->List V->Prop}
def sgs (x:Str):List V:=x.cps.toList.map fun c=>V.str ⟨#[c]⟩
end
end L2
namespace L2
open PySem PySem.Spec PyProof.Rows PySem.Builtin PySem.Builtin.Str
def zjs (x:Str):It:={ go:=fun i _=>i<x.cps.size,Qe:=fun i H v H'=>∃p c,x.cps[i]?=some c/\v=.ref p/\H p=none/\H'=upd H p (.tup [.int (i:Nat),.str ⟨#[c]⟩]),stop:=fun i _=>i=x.cps.size }
theorem zgd {P:Program}{w:World}{K:Frag}{els:List Expr}{x1}{pt:Pos}(x:Str)(t:Tok)(e it:Addr)(hne:e≠it):Turn P w K (.Tuple els x1 pt) (zjs x) [e,it] e (fun i h=>(∃old,IsEnum h e it (i:Nat) old)/\h.IsStrIter it "str_ascii_iterator" x t i) where
 mem:=by simp
 obj:=fun i h st b hb=>by
  rcases List.mem_cons.mp hb with z | z
  ·obtain⟨⟨old,q⟩,_⟩:=st
   rw[z]
   exact⟨_,q,fun v hv=>by cases hv⟩
  ·have z':b=it:=by simpa using z
   obtain⟨_,o,q,c,d⟩:=st
   rw[z']
   exact⟨o,q,fun v hv=>by rw[d] at hv;cases hv⟩
 keep:=fun i h h' st k=>by
  obtain⟨⟨old,q⟩,o,q2,c,d⟩:=st
  exact⟨⟨old,k e (by simp) _ q⟩,o,k it (by simp) o q2,c,d⟩
 item:=by
  intro X hP hw hK hc i pins s σ H E I hf st hg
  subst hP hw hK
  obtain⟨⟨old,he⟩,hit⟩:=st
  have D:=Draws.strAscii (prog:=X.prog) (w:=X.w) (A:=X.A.in1) (I.ok.hd hc) it x t
  refine wpAny_pyNext_enum_itemD D he hit hg hne (by simpa using hne) fun u h1 tk hu out hit1 tup sz k1=>?_
  obtain⟨c,u',hc',rfl⟩:=hu
  refine⟨.ref s.heap.objs.size,rfl,wpAny_letOwnedTupleGo_enum out fun h2 he2 sb=>?_⟩
  have lte:=ztj he
  have k2:∀b o,b∉[e,it]->s.heap.get? b=some o->h2.get? b=some o:=fun b o hb q=>by
   have hb':b≠e/\b≠it:=by simpa using hb
   exact(sb.2 b hb'.1).trans (k1 b o hb'.1 hb'.2 q)
  have hit2:h2.IsStrIter it "str_ascii_iterator" x t (i+1):=by
   obtain⟨o,q,a,b⟩:=hit1
   exact⟨o,(sb.2 it (Ne.symm hne)).trans q,a,b⟩
  have J1:Inv X pins σ H { s with heap:=h2,toks:=tk+1 }:=I.zc4 (fp:=[e,it]) k2 (fun b hb=>by
   rcases List.mem_cons.mp hb with z | z
   ·rw[z];exact⟨_,he2⟩
   ·have z':b=it:=by simpa using z
    obtain⟨o,q,_⟩:=hit2
    rw[z'];exact⟨o,q⟩) hf
  have ziQ:h2.get? s.heap.objs.size=some { cls:=.type "tuple", data:=.seq #[.int i tk,.str ⟨#[c]⟩ u'] }:=(sb.2 _ (Nat.ne_of_gt lte)).trans tup
  have ltc:∀y c,X.env.cells.lookup y=some c->c≠s.heap.objs.size:=fun y c q=>by
   obtain⟨v,o,z,_⟩:=I.cell y c q
   exact ztr (ztj z)
  have ltp:∀p∈X.pn++pins,p.1≠s.heap.objs.size:=fun p hp=>ztr (ztj (I.pin p hp).1)
  have J2:=J1.track (a:=s.heap.objs.size) (o:=.tup [.int (i:Nat),.str ⟨#[c]⟩]) I.fresh (Ne.symm (ztr I.lt)) I.sz ltc ltp ⟨by show 2<=sizeLine;decide,[.int i tk,.str ⟨#[c]⟩ u'],.cons ⟨_,rfl⟩ (.cons ⟨_,rfl⟩ .nil),⟨_,ziQ,rfl,_,rfl⟩⟩
  refine⟨.ref s.heap.objs.size,_,J2,rfl,⟨_,c,hc',rfl,I.fresh,rfl⟩,⟨⟨.str ⟨#[c]⟩ u',?_⟩,hit2⟩,fun b hb=>?_⟩
  ·have:=he2
   simpa using this
  ·have lb:b<s.heap.objs.size:=by
    rcases List.mem_cons.mp hb with z | z
    ·rw[z];exact lte
    ·have z':b=it:=by simpa using z
     obtain⟨o,q,_⟩:=hit
     rw[z'];exact ztj q
   rw[zG (ztr lb)]
   exact(hf b hb).1
 done:=by
  intro X hP hw hK hc i pins s σ H E I hf st hg
  subst hP hw hK
  have e:i=x.cps.size:=hg
  subst e
  obtain⟨⟨old,he⟩,hit⟩:=st
  obtain⟨f0,f1,f2,f3,f4,f5⟩:=hf it (by simp)
  have D:=Draws.strAscii (prog:=X.prog) (w:=X.w) (A:=X.A.in1) (I.ok.hd hc) it x t
  exact wpAny_pyNext_enum_endD D he hit fun h' eb=>⟨rfl,I.turned (t':=s.toks) (fun b o hb q=>eb b o hb q) f0 f1 f3 f4 f5⟩
 self:=fun _ _ _ _ _ st h=>let ⟨⟨_,he⟩,_⟩:=st;wpAny_pyIter_enum he h
section
variable {X:Cx}
def zmB (ta:TA):TI:=fun σ H R=>ta σ H fun vs H1=>∃x:Str,vs=[.str x]/\(x.cps.all fun c=>decide (c<128))=true/\R (zjs x) H1
theorem zeJ {l:Expr}{ta:TA}{p pos:Pos}{els:List Expr}{x1}{pt:Pos}(hg:Gl X "enumerate")(hm:X.mg "enumerate"=none)(ha:PA X [l] ta)(hs:starEach [l] X.env=[(false,eval l X.env)]:=by rfl) :
  PI X (.Tuple els x1 pt) (.Call (.Name "enumerate" p) [l] [] pos) (zmB ta):=by
 intro pins s σ H R I h
 refine Call_ (Wd I hg hm boot_enumerate (PyProof.Rows.callWith_type1 (wD (ha pos pins s σ H _ I h) fun us s1 ⟨vs,H1,I1,r1,q1⟩=>?_) hs rfl))
 obtain⟨x,e,asc,q⟩:=q1
 subst e
 obtain⟨u,rfl,ru⟩:=vals1 r1
 obtain⟨t,rfl⟩:=ru
 refine call_enumerate_str fun h' he hit hsz hk=>?_
 have ht:strIterType x="str_ascii_iterator" := by
  unfold strIterType
  rw[if_pos asc]
 rw[ht] at hit
 have J:Inv X pins σ H1 { s1 with heap:=h',toks:=s1.toks }:=I1.kept hk
 refine wpAny_pyIter_enum he ?_
 refine⟨s1.heap.objs.size+1,[s1.heap.objs.size+1,s1.heap.objs.size],_,_,H1,rfl,J,zgd x t _ _ (Nat.ne_of_gt (Nat.lt_succ_self _)),⟨⟨_,he⟩,hit⟩,fun b hb=>?_,q⟩
 have gb:s1.heap.objs.size<=b:=by
  rcases List.mem_cons.mp hb with z | z
  ·rw[z];exact Nat.le_succ _
  ·have z':b=s1.heap.objs.size:=by simpa using z
   rw[z'];exact zts _
 exact I1.zee gb (I1.hok.fresh gb)
end
def znS (i:Nat)(wi:TI)(xs:List Str)(js:List Nat)(g:TG)(tt:TT)(te:TE):TS:=fun D σ H=>zkk wi xs js g tt te σ H fun v H1=>D.nx (σ.set i (some v)) H1
theorem zh3 {X:Cx}{sc wV:Scope}{xs:List Str}{js:List Nat}{tg:Expr}{g:TG}{elt iter:Expr}{pos:Pos}{ifs:List Expr}{wi:TI}{tt:TT}{te:TE}{i:Nat}{y:Str}{py spos:Pos}(hN:X.N.Nodup)(hy:X.N[i]?=some y)(hl:Loc X.env.scope y)(hf:X.fn y=true\/X.env.scope.names.lookup y=some .local)
  (Ys:X.env.scope=wV)(L:zen wV sc xs (js.map fun j=>X.N.getD j ""))(hc:X.calm=true)(hi:PI X tg iter wi)(hg:∀(cl:List (Str×Addr)) (C:Addr) (s₂:Shared) (H₂:Hp) (fp:List Addr),PG (X.blk sc cl C (Ux X xs js) s₂ H₂ fp) tg g)(hjs:∀j∈js,j<X.N.length)
  (ht:∀(cl:List (Str×Addr)) (C:Addr) (s₂:Shared) (H₂:Hp) (fp:List Addr) (pins:List (Addr×Obj)) (s':Shared) (σ':St) (H':Hp) (Q:Bool->Hp->Prop),Inv (X.blk sc cl C (Ux X xs js) s₂ H₂ fp) pins σ' H' s'->tt σ' H' Q ->
   wpAny (model X.prog X.w) X.A (YL ifs (compEnvC sc cl C X.env)) (TP (X.blk sc cl C (Ux X xs js) s₂ H₂ fp) pins σ' Q) (fun _ _=>False) s')
  (he:∀(cl:List (Str×Addr)) (C:Addr) (s₂:Shared) (H₂:Hp) (fp:List Addr),PE (X.blk sc cl C (Ux X xs js) s₂ H₂ fp) elt te)
  (hsw:swapsWith (.ListComp elt [⟨tg,iter,ifs,0⟩] sc pos) (some (.Name y py)) spos.line X.env=pure true)(hs:∀x,foldedSetIterable iter X.env x=pure x:=by intro _;rfl) :
  PS X (.Assign [.Name y py] (.ListComp elt [⟨tg,iter,ifs,0⟩] sc pos) spos) (znS i wi xs js g tt te):=by
 intro pins s σ H D I h
 rw[exec_Assign_Name_used _ _ _ _ hsw]
 refine wpAny_bind (wpAny_standAt (wpAny_bind ?_))
 show wpAny _ _ (do let _ <-comprehension (.ListComp elt [⟨tg,iter,ifs,0⟩] sc pos) sc X.env _ (newList []) false (eval iter X.env) (some (assign (.Name y py) X.env))) _ _ s
 have pg:=yw (X:=X) (i:=i) (x:=y) (pos:=py) hN hy hl hf
 refine wpAny_bind (wpAny_mono (zaG (use:=some (assign (.Name y py) X.env)) (QQ:=fun _ z=>SP X pins D .next z) (Fin:=fun ys H=>∀p,H p=none->D.nx (σ.set i (some (.ref p))) (upd H p (.lst ys))) Ys L (rd:=Calm) (fun _ _ _ _ _ _ _=>hc) hi hg hjs ht he hs I h fun A C s5 H5 ys its k m5 J oD oC hDC p1 vs z hn fin=>?_) (fun _ z hq=>wpAny_pure (wpAny_pure hq)) fun _ _ e=>e)
 have J1:Inv X pins σ (upd H5 A (.lst ys)) s5:=J.track oD.free oD.loc oD.new oD.cel oD.pin ⟨z,its,k,vs,p1⟩
 obtain⟨oc,es,ep,hC,hd,hr⟩:=hn
 have Uw:∀v,oc.data≠.cell v:=fun v q=>by rw[hd] at q;cases q
 have hCA:C≠A:=Ne.symm hDC
 have fC:(upd H5 A (.lst ys)) C=none:=by rw[zG hCA];exact oC.free
 have J2:Inv X (pins++[(C,oc)]) σ (upd H5 A (.lst ys)) s5:=J1.Xx fun p hp=>(List.mem_append.mp hp).elim (fun q=>J1.pin p (ztt _ q)) fun q=>by
  have e:p=(C,oc):=by simpa using q
  subst e
  exact⟨hC,fC,oC.loc,oC.fs,Uw⟩
 refine wpAny_mono (pg _ s5 σ _ (.ref A) (.ref A) (fun σ6 H6=>σ6=σ.set i (some (.ref A))/\H6=upd H5 A (.lst ys)) J2 rfl ⟨rfl,rfl⟩) (fun _ s6 ⟨σ6,H6,I6,e1,e2⟩=>?_) fun _ _ e=>e
 subst e1 e2
 obtain⟨c1,c2,_⟩:=I6.pin (C,oc) (ztt _ (ztt _ (by simp)))
 refine⟨m5,⟨oc,es,ep,c1,hd,hr⟩,fun h' hsb=>?_⟩
 have J3:Inv X pins (σ.set i (some (.ref A))) (upd H5 A (.lst ys)) s6:=I6.Xx fun p hp=>I6.pin p (ztt _ (List.mem_append_left _ hp))
 have J4:Inv X pins (σ.set i (some (.ref A))) (upd H5 A (.lst ys)) { s6 with heap:=h',toks:=s6.toks }:=J3.turned (it:=C) (fun b o hb e=>hsb.extBut b o hb e) c2 oC.loc (.inr oC.new) oC.cel oC.pin
 exact⟨_,_,J4,fin A oD.free⟩
theorem zge {X:Cx}{sc wV:Scope}{x y:Str}{js:List Nat}{elt iter c:Expr}{px py pt pos:Pos}{x1:Nat}{wi:TI}{te:TE}{tt:TT}{i:Nat}{z:Str}{pz spos:Pos}(hN:X.N.Nodup)(hz:X.N[i]?=some z)(hl:Loc X.env.scope z)(hf:X.fn z=true\/X.env.scope.names.lookup z=some .local)(Ys:X.env.scope=wV)(L:zcu wV sc x y (js.map fun j=>X.N.getD j ""))(hc:X.calm=true)(hi:PI X (.Tuple [.Name x px,.Name y py] x1 pt) iter wi)(hjs:∀j∈js,j<X.N.length)
  (ht:∀(cl:List (Str×Addr)) (C:Addr) (s₂:Shared) (H₂:Hp) (fp:List Addr),PT (X.blk sc cl C (Ux X [x,y] js) s₂ H₂ fp) c tt)
  (he:∀(cl:List (Str×Addr)) (C:Addr) (s₂:Shared) (H₂:Hp) (fp:List Addr),PE (X.blk sc cl C (Ux X [x,y] js) s₂ H₂ fp) elt te)
  (hsw:swapsWith (.ListComp elt [⟨.Tuple [.Name x px,.Name y py] x1 pt,iter,[c],0⟩] sc pos) (some (.Name z pz)) spos.line X.env=pure true)(hs:∀x,foldedSetIterable iter X.env x=pure x:=by intro _;rfl) :
  PS X (.Assign [.Name z pz] (.ListComp elt [⟨.Tuple [.Name x px,.Name y py] x1 pt,iter,[c],0⟩] sc pos) spos) (znS i wi [x,y] js (zfB X.K 2 (V0 (uF 0) (V0 (uF 1) zfA))) tt te) :=
 zh3 hN hz hl hf Ys L.g hc hi (fun cl C s₂ H₂ fp=>zdm (X:=X.blk sc cl C (Ux X [x,y] js) s₂ H₂ fp) hc L.nd rfl rfl (lookup_relabel_local L.hx) (lookup_relabel_local L.hy)) hjs (fun cl C s₂ H₂ fp pins s' σ' H' Q I h=>wpAny_tests_one (ht cl C s₂ H₂ fp pins s' σ' H' Q I h)) he hsw hs
theorem zjt {K:Frag}{x:Str}{σ:St}{js:List Nat}{tt:TT}{te:TE}{H:Hp}{Qf:Addr->Hp->List V->Prop}{u v:Str}(Pv:Nat->List V->Hp->Prop)(h0:Pv 0 [] H)(hz:x.cps.size<=sizeLine)(hl:∀i ys H,Pv i ys H->ys.length<=i)
  (hs:∀(i:Nat) (c:Nat) ys H (p:Addr) (Q1:V->Hp->Prop) (Q2:Hp->Prop),x.cps[i]?=some c->Pv i ys H->H p=none->(∀z H3,Pv (i+1) (ys++[z]) H3->Q1 z H3)->(∀H2,Pv (i+1) ys H2->Q2 H2) ->
   tt (LC σ js [some (.int (i:Nat)),some (.str ⟨#[c]⟩)]) (upd H p (.tup [.int (i:Nat),.str ⟨#[c]⟩])) fun b H2=>if b=true then te (LC σ js [some (.int (i:Nat)),some (.str ⟨#[c]⟩)]) H2 Q1 else Q2 H2)
  (hd:∀ys H p,Pv x.cps.size ys H->H p=none->Qf p H ys) :
  ∃W:Nat->Nat->List V->Hp->Prop,(∃m,W 0 m [] H)/\∀i m zs H,W i m zs H ->
   ((zjs x).stop i H/\∀p,H p=none->Qf p H zs) \/
   ((zjs x).go i H/\zs.length<sizeLine/\∀w H',(zjs x).Qe i H w H'->∀o0:List (Option V),o0.length=[u,v].length->zfB K 2 (V0 (uF 0) (V0 (uF 1) zfA)) w (LC σ js o0) H' fun σ2 H1=>∃o1,σ2=LC σ js o1/\o1.length=[u,v].length/\tt σ2 H1 fun b H2 =>
    if b=true then te σ2 H2 fun v H3=>∃m',m'<m/\W (i+1) m' (zs++[v]) H3 else ∃m',m'<m/\W (i+1) m' zs H2):=by
 refine⟨fun i m ys H=>m=x.cps.size-i/\i<=x.cps.size/\Pv i ys H,⟨x.cps.size,by simp,ztz _,h0⟩,?_⟩
 rintro i m ys H ⟨rfl,hi,pv⟩
 have hy:=hl i ys H pv
 by_cases hlt:i<x.cps.size
 ·refine .inr ⟨hlt,by omega,fun w H' y o0 l0=>?_⟩
  obtain⟨p,c,hc,rfl,hp,rfl⟩:=y
  have eσ:((LC σ js o0).set 0 (some (.int (i:Nat)))).set 1 (some (.str ⟨#[c]⟩))=LC σ js [some (.int (i:Nat)),some (.str ⟨#[c]⟩)]:=by
   match o0,l0 with
   | [a0,a1],_=>rfl
  refine⟨p,_,rfl,wY.of zf,rfl,_,_,rfl,_,_,rfl,rfl,[some (.int (i:Nat)),some (.str ⟨#[c]⟩)],eσ,rfl,?_⟩
  rw[eσ]
  exact hs i c ys H p _ _ hc pv hp (fun z H3 p3=>⟨_,Nat.sub_lt_sub_left hlt (Nat.lt_succ_self i),rfl,hlt,p3⟩) (fun H2 p2=>⟨_,Nat.sub_lt_sub_left hlt (Nat.lt_succ_self i),rfl,hlt,p2⟩)
 ·have e:i=x.cps.size:=by omega
  subst e
  exact .inl ⟨rfl,fun p hp=>hd ys H p pv hp⟩
section
variable {X:Cx}
theorem zhm:∀{xs:List Str} {l:List Value},Vals (xs.map V.str) l->∃ps:List (Str×Tok),l=strValues ps/\ps.map (·.1)=xs
 | [],_,.nil=>⟨[],rfl,rfl⟩
 | x::xs,_,.cons r rs=>by
  obtain⟨ps,e,e2⟩:=zhm rs
  obtain⟨t,rfl⟩:=r
  exact⟨(x,t)::ps,by rw[e];rfl,by rw[ztB,e2]⟩
end
end L2
namespace xV
open PySem L2 yN
abbrev Cb:=List (Option Bool)
def Ua:Option Bool->Nat
 | none=>45
 | some false=>48
 | some true=>49
def cbS (q:Cb):Str:=⟨(q.map Ua).toArray⟩
theorem zkS:∀{a b:Option Bool},Ua a=Ua b->a=b:=fun {a b} h=>by
 cases a with
 | none=>cases b with
  | none=>rfl
  | some y=>cases y<;>exact absurd h (by decide)
 | some x=>cases b with
  | none=>cases x<;>exact absurd h (by decide)
  | some y=>cases x<;>cases y<;>first | rfl | exact absurd h (by decide)
theorem Wk (q:Cb):(cbS q).cps.size=q.length:=by
 show(q.map Ua).toArray.size=_
 simp
theorem yt (q:Cb):(cbS q).length=q.length:=Wk q
theorem Rn (q:Cb):(cbS q).cps.toList=q.map Ua:=rfl
theorem zaj (q:Cb):((cbS q).cps.all fun c=>decide (c<128))=true:=by
 rw[Array.all_eq_true_iff_forall_mem]
 intro c hc
 have hc:c∈(q.map Ua).toArray:=hc
 rw[List.mem_toArray] at hc
 obtain⟨s,_,rfl⟩:=List.mem_map.mp hc
 exact decide_eq_true (by cases s with
  | none=>decide
  | some b=>cases b<;>decide)
theorem zgf {q:Cb}{i c:Nat}(h:(cbS q).cps[i]?=some c):∃s,q[i]?=some s/\c=Ua s:=by
 have h:(q.map Ua).toArray[i]?=some c:=h
 rw[List.getElem?_toArray,zte] at h
 cases e:q[i]? with
 | none=>rw[e] at h;cases h
 | some s=>rw[e] at h;exact⟨s,rfl,(ztH h).symm⟩
theorem zak {q:Cb}{i:Nat}{s:Option Bool}(h:q[i]?=some s):(cbS q).cps.toList[i]?=some (Ua s):=by
 rw[Rn,zte,h];rfl
theorem zal {q r:Cb}(h:cbS q=cbS r):q=r:=by
 have:q.map Ua=r.map Ua:=by
  have e:=congrArg (fun x:Str=>x.cps.toList) h
  exact e
 exact map_inj' this
where
 map_inj':∀{q r:Cb},q.map Ua=r.map Ua->q=r
  | [],[],_=>rfl
  | [],_::_,h=>by cases h
  | _::_,[],h=>by cases h
  | a::q,b::r,h=>by
   rw[ztB,ztB] at h
   injection h with h1 h2
   rw[zkS h1,map_inj' h2]
theorem XF (q r:Cb):cbS q++cbS r=cbS (q++r):=by
 show(⟨(q.map Ua).toArray++(r.map Ua).toArray⟩:Str)=⟨((q++r).map Ua).toArray⟩
 rw[ztq,List.append_toArray]
theorem zkT (s:Option Bool):(⟨#[Ua s]⟩:Str)=cbS [s]:=rfl
theorem dash:Str.ofString "-"=cbS [none]:=by decide +kernel
theorem sr1 {a b:Nat}(h:a<=b):sliceRange (a:Int) (b:Int) 1=List.range' a (b-a):=by
 unfold sliceRange
 have e:(if (1:Int) > 0 then (if (a:Int)<b then ((b:Int)-a+1-1) / 1 else 0) else (if (a:Int) > b then ((a:Int)-b-1-1) / (-1) else 0)).toNat=b-a:=by
  rw[if_pos (by decide)]
  split
  ·rw[Int.ediv_one];omega
  ·show(0:Int).toNat=_
   rw[Int.toNat_zero];omega
 dsimp only
 rw[e,List.range'_eq_map_range]
 refine List.map_congr_left fun k _=>?_
 omega
theorem zeK (xs:List Nat):∀(a m:Nat),a+m<=xs.length->(List.range' a m).filterMap (xs[·]?)=(xs.drop a).take m
 | a,0,_=>by simp
 | a,m+1,h=>by
  rw[List.range'_succ,List.filterMap_cons,ztd (by omega)]
  dsimp only
  rw[zeK xs (a+1) m (by omega),List.drop_eq_getElem_cons (by omega:a<xs.length),List.take_succ_cons]
theorem zeL {x:Str}{lo hi:Option Int}{a b:Nat}(h:a<=b)(hb:b<=x.length)(e:Builtin.Str.strSliceIndices lo hi 1 x.length=sliceRange (a:Int) (b:Int) 1):Txt.slice x lo hi=⟨((x.cps.toList.drop a).take (b-a)).toArray⟩:=by
 unfold Txt.slice
 rw[e,sr1 h]
 have ls:x.cps.toList.length=x.length:=Array.length_toList
 split
 ·rename_i w
  have w2:(List.range' a (b-a)).length=x.length:=by simpa using w
  rw[List.length_range'] at w2
  have a0:a=0:=by omega
  have bn:b=x.length:=by omega
  subst a0
  rw[List.drop_zero,List.take_of_length_le (by omega)]
 ·congr 2
  have:=zeK x.cps.toList a (b-a) (by omega)
  rw[<-this]
  exact congrArg (fun f=>List.filterMap f (List.range' a (b-a))) (funext fun i=>(Array.getElem?_toList).symm)
theorem zgg {x:Str}{i:Nat}(h:i<=x.length):Txt.slice x none (some (i:Int))=⟨(x.cps.toList.take i).toArray⟩:=by
 have:=zeL (x:=x) (lo:=none) (hi:=some (i:Int)) (a:=0) (b:=i) (ztz _) h (by
  unfold Builtin.Str.strSliceIndices
  dsimp only
  simp only[show(1:Int) > 0 by decide,if_true]
  rw[if_neg (by omega:¬(i:Int)<0)]
  congr 1
  omega)
 rw[List.drop_zero,Nat.sub_zero] at this
 exact this
theorem zgh {x:Str}{i:Nat}(h:i<=x.length):Txt.slice x (some (i:Int)) none=⟨(x.cps.toList.drop i).toArray⟩:=by
 have:=zeL (x:=x) (lo:=some (i:Int)) (hi:=none) (a:=i) (b:=x.length) h (zts _) (by
  unfold Builtin.Str.strSliceIndices
  dsimp only
  simp only[show(1:Int) > 0 by decide,if_true]
  rw[if_neg (by omega:¬(i:Int)<0)]
  congr 1
  omega)
 rw[List.take_of_length_le (by rw[List.length_drop];have:x.cps.toList.length=x.length:=Array.length_toList;omega)] at this
 exact this
theorem zam {q:Cb}{i:Nat}(h:i<=q.length):Txt.slice (cbS q) none (some (i:Int))=cbS (q.take i):=by
 rw[zgg (by rw[yt];exact h),Rn,<-List.map_take]
 rfl
theorem zan {q:Cb}{i:Nat}(h:i<=q.length):Txt.slice (cbS q) (some (i:Int)) none=cbS (q.drop i):=by
 rw[zgh (by rw[yt];exact h),Rn,<-List.map_drop]
 rfl
def xJ (q:Cb)(b:Nat):Bool:=(List.range q.length).all fun i=>match q.getD i none with
 | none=>true
 | some v=>b.testBit i==v
def Mg (q:Cb):List Nat:=(List.range q.length).filter fun i=>(q.getD i none).isSome
def vlC (q:Cb):List Bool:=(Mg q).map fun i=>(q.getD i none).getD false
theorem zdv {q:Cb}:∀i∈Mg q,i<q.length:=fun i h=>List.mem_range.mp (List.mem_filter.mp h).1
theorem zmC (q:Cb)(b:Nat):hav ((Mg q).zip (vlC q)) b=xJ q b:=by
 rw[ztS]
 unfold hav xJ
 rw[ztG,ztG]
 have ez:(Mg q).zip (vlC q)=(Mg q).map fun i=>(i,(q.getD i none).getD false):=by
  unfold vlC
  rw[List.zip_map_right,List.zip_eq_zipWith,List.zipWith_self,ztO]
  rfl
 constructor
 ·intro h i hi
  cases e:q.getD i none with
  | none=>rfl
  | some v =>
   have:=h (i,v) (by rw[ez];exact List.mem_map.mpr ⟨i,List.mem_filter.mpr ⟨hi,by rw[e];rfl⟩,by rw[e];rfl⟩)
   exact this
 ·intro h x hx
  rw[ez] at hx
  obtain⟨i,hi,rfl⟩:=List.mem_map.mp hx
  obtain⟨h1,h2⟩:=List.mem_filter.mp hi
  have:=h i h1
  cases e:q.getD i none with
  | none=>rw[e] at h2;cases h2
  | some v=>rw[e] at this;exact this
end xV
namespace L2
open PySem PySem.Spec PyProof.Rows PySem.Builtin PySem.Builtin.Str xV
section
variable {X:Cx}
theorem zcz:∀(q:Cb) (acc:Array Nat),(q.map fun s=>cbS [s]).foldl (fun acc p=>acc++(Str.ofString "").cps++p.cps) acc=acc++(q.map Ua).toArray
 | [],acc=>by simp
 | s::q,acc=>by
  rw[ztB,List.foldl_cons,zcz q]
  have e:(Str.ofString "").cps=#[]:=by decide +kernel
  rw[e,Array.append_empty]
  show acc ++ #[Ua s]++_=_
  rw[ztB]
  apply Array.toList_inj.mp
  simp
theorem zju (q:Cb):glued (Str.ofString "") (q.map fun s=>cbS [s])=cbS q:=by
 cases q with
 | nil=>rfl
 | cons s q =>
  unfold glued
  rw[ztB,List.drop_succ_cons,List.drop_zero,zcz]
  show(⟨#[Ua s]++(q.map Ua).toArray⟩:Str)=⟨((s::q).map Ua).toArray⟩
  congr 1
  apply Array.toList_inj.mp
  simp
theorem zkV (q:Cb):∀(n:Nat),(q.map fun s=>cbS [s]).foldl (fun a x=>a+x.length+(Str.ofString "").length) n=n+q.length:=by
 have e:(Str.ofString "").length=0:=by decide +kernel
 induction q with
 | nil=>intro n;rfl
 | cons s q ih =>
  intro n
  rw[ztB,List.foldl_cons,ih,e,yt]
  show n+1+0+q.length=n+(q.length+1)
  omega
def zmD (K:Frag):V->List V->Hp->VK->Prop:=fun x vs H Q=>∃(l:Addr) (q:Cb),x=.str "" /\ vs=[.ref l]/\zP K H l (q.map fun s=>V.str (cbS [s]))/\q.length<=1000/\Q (.str (cbS q)) H
theorem zjv:MtM X "str.join" (zmD X.K):=by
 intro pins s σ H x vs v us Q I rx rv h
 obtain⟨l,c,rfl,rfl,hq,hc,q⟩:=h
 obtain⟨t,rfl⟩:=rx
 obtain⟨u,rfl,ru⟩:=rv.one
 cases ru
 obtain⟨its,r',pl,hz⟩:=I.list hq
 have ev:(c.map fun s=>V.str (cbS [s]))=(c.map fun s=>cbS [s]).map V.str:=by rw[ztO];rfl
 rw[ev] at r'
 obtain⟨ps,rfl,eps⟩:=zhm r'
 refine call_meets PySem.F.slot_str_join (typeIs_str s "" t) PySem.F.entry_str_join (PySem.F.args_str_join_2 _ _) (meets_str_join_list "" t l ps ?_) ⟨pl.isList,?_⟩
 ·rw[eps,List.foldl_toArray,zkV]
  unfold tooLong
  rw[sizeLine_eq]
  exact decide_eq_false (by omega)
 ·cases ps with
  | nil =>
   have e:c=[]:=by
    have:=congrArg List.length eps
    rw[ztc,ztc] at this
    exact List.length_eq_zero_iff.mp this.symm
   subst e
   exact⟨by decide,.str (cbS []),H,I.tok _,⟨_,rfl⟩,q⟩
  | cons p ps =>
   cases ps with
   | nil =>
    obtain⟨s0,rfl⟩:∃s0,c=[s0]:=by
     cases c with
     | nil=>exact absurd (congrArg List.length eps) (by simp)
     | cons s0 c =>
      cases c with
      | nil=>exact⟨s0,rfl⟩
      | cons _ _=>exact absurd (congrArg List.length eps) (by simp)
    have e:p.1=cbS [s0]:=(List.cons.inj eps).1
    obtain⟨p1,p2⟩:=p
    have e:p1=cbS [s0]:=e
    subst e
    exact⟨.str (cbS [s0]),H,I,⟨p2,rfl⟩,q⟩
   | cons p2 ps =>
    have e:joinMade "" (p::p2::ps)=Made.str (cbS c):=by
     show Made.str (glued "" ((p::p2::ps).map (·.1)))=_
     rw[eps]
     exact congrArg Made.str (zju c)
    rw[e]
    exact⟨by rw[yt,sizeLine_eq];omega,.str (cbS c),H,I.tok _,⟨_,rfl⟩,q⟩
def znT:R2:=fun x y H Q=>∃n:Nat,x=.str "-" /\ y=.int (n:Nat)/\n<=8/\Q (.str (cbS (List.replicate n none))) H
theorem zkW:∀n:Fin 9,MulOk (Str.ofString "-") ((n:Nat):Int):=by
 intro n
 refine⟨?_,?_,?_⟩<;>revert n<;>decide +kernel
theorem zkX:∀n:Fin 9,Txt.mul (Str.ofString "-") ((n:Nat):Int)=cbS (List.replicate n none):=by decide +kernel
theorem zkY:Uu X (binaryOp .Mult) znT:=by
 intro pins s σ H x y v u Q I rx ry h
 obtain⟨n,rfl,rfl,hn,q⟩:=h
 obtain⟨t,rfl⟩:=rx
 obtain⟨t',rfl⟩:=ry
 refine SB.mul (zkW ⟨n,by omega⟩) fun t2 k=>?_
 rw[zkX ⟨n,by omega⟩]
 exact⟨.str (cbS (List.replicate n none)),H,I.tok _,⟨_,rfl⟩,q⟩
end
section
variable {K:Frag}{σ:St}{js:List Nat}{te:TE}{H:Hp}{Qf:Addr->Hp->List V->Prop}
theorem zkZ {x:Str}(f:V->V)(hz:x.cps.size<=sizeLine)
  (hs:∀(v:V) H' (Q:V->Hp->Prop),v∈sgs x->Same H H'->(∀H3,Same H H3->Q (f v) H3)->te (Zx σ js (some v)) H' Q)
  (hd:∀H' l,Same H H'->H' l=none->Qf l H' ((sgs x).map f)) :
  ∃W:Nat->Nat->List V->Hp->Prop,(∃m,W 0 m [] H)/\∀i m ys H,W i m ys H ->
   ((Its x).stop i H/\∀p,H p=none->Qf p H ys) \/
   ((Its x).go i H/\ys.length<sizeLine/\∀v H',(Its x).Qe i H v H'->Sv (Zx σ js (some v)) H' fun b H2 =>
    if b=true then te (Zx σ js (some v)) H2 fun v H3=>∃m',m'<m/\W (i+1) m' (ys++[v]) H3 else ∃m',m'<m/\W (i+1) m' ys H2):=by
 have ls:(sgs x).length=x.cps.size:=by unfold sgs;rw[ztc];exact Array.length_toList
 refine⟨fun i m ys H'=>m=x.cps.size-i/\i<=x.cps.size/\Same H H'/\ys=((sgs x).take i).map f,⟨_,rfl,ztz _,Same.refl _,rfl⟩,?_⟩
 rintro i m ys H1 ⟨rfl,hi,g,rfl⟩
 by_cases hlt:i<x.cps.size
 ·refine .inr ⟨hlt,by rw[ztc,ztA];omega,fun v H' y=>?_⟩
  obtain⟨e,c,hc,rfl⟩:=y
  subst e
  have hb:(sgs x)[i]?=some (.str ⟨#[c]⟩):=by
   unfold sgs
   rw[zte,Array.getElem?_toList,hc]
   rfl
  refine zpu (Wh (hs _ _ _ (zth hb) g fun H3 g3=>⟨_,Nat.sub_lt_sub_left hlt (Nat.lt_succ_self i),rfl,hlt,g3,?_⟩))
  rw[yj hb,ztq]
  rfl
 ·have e:i=x.cps.size:=by omega
  subst e
  refine .inl ⟨rfl,fun l hl=>?_⟩
  rw[<-ls,ztF]
  exact hd _ l g hl
end
end L2
namespace xV
open PySem L2 yN
def asc (x:Str):Prop:=(x.cps.all fun c=>decide (c<128))=true
def zhn (n:Nat)(x:Str):Bool:=decide (x.length=n)&&x.cps.toList.all fun c=>decide (c=45\/c=48\/c=49)
theorem zjw (n:Nat)(q:Cb):zhn n (cbS q)=decide (q.length=n):=by
 unfold zhn
 rw[yt,Rn]
 have:((q.map Ua).all fun c=>decide (c=45\/c=48\/c=49))=true:=by
  rw[ztG]
  intro c hc
  obtain⟨s,_,rfl⟩:=List.mem_map.mp hc
  cases s with
  | none=>decide
  | some b=>cases b<;>decide
 rw[this,Bool.and_true]
def inB (n:Nat)(f:Nat->Bool)(q:Cb):Bool:=(List.range (2^n)).all fun b=>!xJ q b||f b
theorem Zi {n:Nat}{f:Nat->Bool}{q:Cb}:inB n f q=true↔∀b,b<2^n->xJ q b=true->f b=true:=by
 unfold inB
 rw[ztG]
 constructor
 ·intro h b hb c
  have:=h b (List.mem_range.mpr hb)
  rw[c] at this
  simpa using this
 ·intro h b hb
  cases c:xJ q b with
  | false=>rfl
  | true=>rw[h b (List.mem_range.mp hb) c];rfl
def wid (q:Cb):List Cb:=(Mg q).map fun i=>q.set i none
def yE (n:Nat)(f:Nat->Bool)(q:Cb):Bool:=inB n f q&&!(wid q).any (inB n f)
theorem zmE {n R:Nat}{f:Nat->Bool}(t:z9 n R f):decide (R=0)=(List.range (2^n)).all fun b=>!f b:=by
 rw[ztS,decide_eq_true_iff,ztG]
 constructor
 ·intro h b hb
  have:=t b
  rw[h,Nat.zero_testBit,decide_eq_true (List.mem_range.mp hb),Bool.true_and] at this
  rw[<-this];rfl
 ·intro h
  refine zhi fun b=>?_
  rw[t b,Nat.zero_testBit]
  by_cases hb:b<2^n
  ·have:=h b (List.mem_range.mpr hb)
   rw[decide_eq_true hb,Bool.true_and]
   cases e:f b with
   | false=>rfl
   | true=>rw[e] at this;cases this
  ·rw[decide_eq_false hb,Bool.false_and]
theorem zgi {n R:Nat}{f:Nat->Bool}{q:Cb}(t:z9 n R fun b=>xJ q b&&!f b):decide (R=0)=inB n f q:=by
 rw[zmE t]
 unfold inB
 refine congrArg (fun g=>(List.range (2^n)).all g) (funext fun b=>?_)
 cases xJ q b<;>cases f b<;>rfl
theorem zk0 (c:Nat):inV (.str ⟨#[c]⟩) ((["-", "0", "1"]:List Str).map V.str)=decide (c=45\/c=48\/c=49):=by
 have e:(["-", "0", "1"]:List Str)=[⟨#[45]⟩,⟨#[48]⟩,⟨#[49]⟩]:=by decide +kernel
 rw[e,ztS,decide_eq_true_iff,zhh,List.contains_iff_mem]
 simp
theorem za1 {q:Cb}{i:Nat}{s:Option Bool}(h:q[i]?=some s):((Mg q).filter fun j=>decide (j<i+1))=((Mg q).filter fun j=>decide (j<i))++(if s.isSome then [i] else []):=by
 have hi:i<q.length:=(ztf.mp h).1
 have gd:q.getD i none=s:=by rw[ztp,h];rfl
 have key:∀m,m<=q.length->((Mg q).filter fun j=>decide (j<m))=(List.range m).filter fun i=>(q.getD i none).isSome:=fun m hm=>by
  unfold Mg
  rw[List.filter_filter]
  have e:List.range q.length=List.range m++List.range' m (q.length-m):=by
   have z:=List.range'_append_1 (s:=0) (m:=m) (n:=q.length-m)
   rw[Nat.zero_add] at z
   rw[List.range_eq_range',List.range_eq_range',z]
   congr 1
   omega
  rw[e,ztQ]
  have e1:(List.range m).filter (fun a=>decide (a<m)&&(q.getD a none).isSome)=(List.range m).filter fun i=>(q.getD i none).isSome:=List.filter_congr fun j hj=>by rw[decide_eq_true (List.mem_range.mp hj),Bool.true_and]
  have e2:(List.range' m (q.length-m)).filter (fun a=>decide (a<m)&&(q.getD a none).isSome)=[]:=List.filter_eq_nil_iff.mpr fun j hj=>by
   have:=(List.mem_range'_1.mp hj).1
   rw[decide_eq_false (by omega:¬j<m)]
   simp
  rw[e1,e2,List.append_nil]
 rw[key (i+1) (by omega),key i (by omega),List.range_succ,ztQ]
 congr 1
 rw[List.filter_cons,gd,List.filter_nil]
theorem zcA (q:Cb){i:Nat}(h:i<=q.length):((Mg q).filter fun j=>decide (j<i)).length<=i:=by
 have sub:∀j∈(Mg q).filter fun j=>decide (j<i),j∈List.range i:=fun j hj=>List.mem_range.mpr (of_decide_eq_true (List.mem_filter.mp hj).2)
 have nd:((Mg q).filter fun j=>decide (j<i)).Nodup:=(List.nodup_range.filter _).filter _
 have:=zaL nd sub
 rw[ztu] at this
 exact this
theorem zeM {q:Cb}{i:Nat}(h:i∈Mg q):∃v,q[i]?=some (some v):=by
 obtain⟨h1,h2⟩:=List.mem_filter.mp h
 have hi:=List.mem_range.mp h1
 rw[ztp,ztd hi] at h2
 rw[ztd hi]
 cases e:q[i] with
 | none=>rw[e] at h2;cases h2
 | some v=>exact⟨v,rfl⟩
section
variable (C D D':Addr)(K:Frag)
inductive KD (vs:List V)(H:Hp)(Q:VK)(E9:XK):Prop
 | mk (b:Addr) (os:List Str) (rs:List Rm) (F:uZ) (x:Str) (_:vs=[.ref b,.str x]) (_:yV C H b os rs F) (_:asc x) (_:x.length<=1000) (_:∀H',Same H H'->Q (.bl (zhn os.length x)) H'):KD vs H Q E9
inductive U5 (vs:List V)(H:Hp)(Q:VK)(E9:XK):Prop
 | mk (b:Addr) (os:List Str) (rs:List Rm) (F:uZ) (q:Cb) (_:vs=[.ref b,.str (cbS q)]) (_:yV C H b os rs F) (_:q.length=os.length) (_:∀H',Same H H'->Q .non H'):U5 vs H Q E9
inductive Ro (vs:List V)(H:Hp)(Q:VK)(E9:XK):Prop
 | mk (b l:Addr) (os:List Str) (rs:List Rm) (F:uZ) (qs:List Cb) (_:vs=[.ref b,.ref l]) (_:yV C H b os rs F) (_:zP K H l (qs.map fun q=>V.str (cbS q))) (_:(∀q∈qs,q.length=os.length)) (_:∀H',Same H H'->Q .non H'):Ro vs H Q E9
inductive Wm (vs:List V)(H:Hp)(Q:VK)(E9:XK):Prop
 | mk (q:Cb) (_:vs=[.str (cbS q)]) (_:q.length<=8) (_:∀(R:Nat) (H':Hp),Same H H'->z9 q.length R (xJ q)->Q (.int (R:Nat)) H'):Wm vs H Q E9
inductive za2 (vs:List V)(H:Hp)(Q:VK)(E9:XK):Prop
 | mk (b:Addr) (os:List Str) (rs:List Rm) (F:uZ) (k:Nat) (q:Cb) (_:vs=[.ref b,.int (k:Nat),.str (cbS q)]) (_:yV C H b os rs F) (_:k<rs.length) (_:q.length=os.length) (_:∀H',Same H H'->Q (.bl (inB os.length (tB rs k) q)) H'):za2 vs H Q E9
inductive QB (vs:List V)(H:Hp)(Q:VK)(E9:XK):Prop
 | mk (q:Cb) (_:vs=[.str (cbS q)]) (_:q.length<=8) (_:∀(l:Addr) (H':Hp),Same H H'->H l=none->H' l=some (.lst ((wid q).map fun q=>V.str (cbS q)))->Q (.ref l) H'):QB vs H Q E9
inductive KH (vs:List V)(H:Hp)(Q:VK)(E9:XK):Prop
 | mk (b:Addr) (os:List Str) (rs:List Rm) (F:uZ) (k:Nat) (q:Cb) (_:vs=[.ref b,.int (k:Nat),.str (cbS q)]) (_:yV C H b os rs F) (_:k<rs.length) (_:q.length=os.length) (_:∀H',Same H H'->Q (.bl (yE os.length (tB rs k) q)) H'):KH vs H Q E9
end
end xV
namespace L2
open PySem PySem.Spec PyProof.Rows
theorem zk1 {x:Str}{g:TG}{tb:TS}{D:Ends}{σ:St}{H:Hp}(Pv:Nat->St->Hp->Prop)(h0:Pv 0 σ H)
  (hs:∀i c σ H,x.cps[i]?=some c->Pv i σ H->g (.str ⟨#[c]⟩) σ H fun σ2 H2=>tb { D with nx:=Pv (i+1),ct:=Pv (i+1),bk:=D.nx } σ2 H2)(hd:∀ σ H,Pv x.cps.size σ H->D.nx σ H) :
  ∃W:Nat->Nat->St->Hp->Prop,(∃m,W 0 m σ H)/\∀i m σ H,W i m σ H ->
   ((Its x).stop i H/\D.nx σ H)\/((Its x).go i H/\∃N:St->Hp->Prop,(∀ σ' H',N σ' H'->∃m',m'<m/\W (i+1) m' σ' H')/\∀v H',(Its x).Qe i H v H'->g v σ H' fun σ2 H2=>tb { D with nx:=N,ct:=N,bk:=D.nx } σ2 H2):=by
 refine⟨fun i m σ H=>m=x.cps.size-i/\i<=x.cps.size/\Pv i σ H,⟨x.cps.size,by simp,ztz _,h0⟩,?_⟩
 rintro i m σ H ⟨rfl,hi,p⟩
 by_cases hlt:i<x.cps.size
 ·refine .inr ⟨hlt,Pv (i+1),fun σ' H' p'=>⟨x.cps.size-(i+1),by omega,rfl,hlt,p'⟩,fun v H' y=>?_⟩
  obtain⟨e,c,hc,rfl⟩:=y
  subst e
  exact hs i c σ _ hc p
 ·have e:i=x.cps.size:=by omega
  subst e
  exact .inl ⟨rfl,hd σ H p⟩
section
variable {K:Frag}{σ:St}{js:List Nat}{tt:TT}{te:TE}{H:Hp}{Qf:Addr->Hp->List V->Prop}
theorem zk2 {a:Addr}{xs:List V}(Pv:Nat->List V->Hp->Prop)(h0:Pv 0 [] H)(hz:xs.length<=sizeLine)(hl:∀i ys H,i<=xs.length->Pv i ys H->wY K H a xs/\ys.length<=i)
  (hs:∀(i:Nat) x ys H (Q1:V->Hp->Prop) (Q2:Hp->Prop),xs[i]?=some x->Pv i ys H->(∀z H3,Pv (i+1) (ys++[z]) H3->Q1 z H3)->(∀H2,Pv (i+1) ys H2->Q2 H2)->tt (Zx σ js (some x)) H fun b H2=>if b=true then te (Zx σ js (some x)) H2 Q1 else Q2 H2)
  (hd:∀ys H p,Pv xs.length ys H->H p=none->Qf p H ys) :
  ∃W:Nat->Nat->List V->Hp->Prop,(∃m,W 0 m [] H)/\∀i m ys H,W i m ys H ->
   ((Itt K a).stop i H/\∀p,H p=none->Qf p H ys) \/
   ((Itt K a).go i H/\ys.length<sizeLine/\∀x H',(Itt K a).Qe i H x H'->tt (Zx σ js (some x)) H' fun b H2 =>
    if b=true then te (Zx σ js (some x)) H2 fun v H3=>∃m',m'<m/\W (i+1) m' (ys++[v]) H3 else ∃m',m'<m/\W (i+1) m' ys H2):=by
 refine⟨fun i m ys H=>m=xs.length-i/\i<=xs.length/\Pv i ys H,⟨xs.length,by simp,ztz _,h0⟩,?_⟩
 rintro i m ys H ⟨rfl,hi,p⟩
 obtain⟨q,hy⟩:=hl i ys H hi p
 by_cases hlt:i<xs.length
 ·refine .inr ⟨⟨xs,xs[i],q,by simp[hlt]⟩,by omega,fun v H' y=>?_⟩
  obtain⟨e,y⟩:=y
  subst e
  exact hs i v ys _ _ _ (y xs q) p (fun z H3 p3=>⟨_,Nat.sub_lt_sub_left hlt (Nat.lt_succ_self i),rfl,hlt,p3⟩) (fun H2 p2=>⟨_,Nat.sub_lt_sub_left hlt (Nat.lt_succ_self i),rfl,hlt,p2⟩)
 ·have e:i=xs.length:=by omega
  subst e
  exact .inl ⟨⟨xs,q,zts _⟩,fun r hr=>hd ys H r p hr⟩
end
end L2
namespace xV
open PySem L2 yN
def mtS (s:Option Bool)(v:Bool):Bool:=match s with
 | none=>true
 | some w=>v==w
def cbR (q:Cb):List (List Bool):=(allR q.length).filter fun r=>xJ q (zx r)
def zgj (s:Option Bool)(r:List Bool):List (List Bool):=(if mtS s false then [r++[false]] else [])++(if mtS s true then [r++[true]] else [])
theorem zeN {q:Cb}{s:Option Bool}{r:List Bool}{v:Bool}(h:r.length=q.length):xJ (q++[s]) (zx (r++[v]))=(xJ q (zx r)&&mtS s v):=by
 unfold xJ
 rw[ztk,ztK,List.range_succ,List.all_append]
 congr 1
 ·rw[ztS,ztG,ztG]
  refine forall_congr' fun i=>forall_congr' fun hi=>?_
  have hi:=List.mem_range.mp hi
  have e1:(q++[s]).getD i none=q.getD i none:=by
   rw[ztp,ztJ hi,<-ztp]
  have e2:(zx (r++[v])).testBit i=(zx r).testBit i:=by
   rw[wg,wg,ztJ (by omega)]
  rw[e1,e2]
 ·have e1:(q++[s]).getD q.length none=s:=by
   rw[ztp,List.getElem?_append_right (zts _),Nat.sub_self]
   rfl
  have e2:(zx (r++[v])).testBit q.length=v:=by
   rw[wg,List.getElem?_append_right (by omega),h,Nat.sub_self]
   rfl
  rw[List.all_cons,List.all_nil,Bool.and_true,e1,e2]
  cases s<;>rfl
theorem zjx (q:Cb)(s:Option Bool):cbR (q++[s])=(cbR q).flatMap (zgj s):=by
 unfold cbR
 rw[ztk,ztK]
 show((allR q.length).flatMap fun r=>[r++[false],r++[true]]).filter _=_
 have key:∀L:List (List Bool),(∀r∈L,r.length=q.length)->(L.flatMap fun r=>[r++[false],r++[true]]).filter (fun r=>xJ (q++[s]) (zx r))=(L.filter fun r=>xJ q (zx r)).flatMap (zgj s):=by
  intro L
  induction L with
  | nil=>intro _;rfl
  | cons r L ih =>
   intro h
   have hr:=h r (ztw ..)
   rw[List.flatMap_cons,ztQ,ih fun r' h'=>h r' (ztn _ h')]
   have e:[r++[false],r++[true]].filter (fun r=>xJ (q++[s]) (zx r))=if xJ q (zx r) then zgj s r else []:=by
    rw[List.filter_cons,List.filter_cons,List.filter_nil,zeN hr,zeN hr]
    unfold zgj
    cases xJ q (zx r)<;>cases mtS s false<;>cases mtS s true<;>rfl
   rw[e,List.filter_cons]
   cases xJ q (zx r)<;>simp
 exact key _ fun r hr=>vY _ r hr
theorem zeO (q:Cb):(cbR q).length<=2^q.length:=zty (ztL _ _) (by rw[V8];exact zts _)
theorem zeP (s:Option Bool)(b:Bool):inV (.str ⟨#[Ua s]⟩) [.str "-", .str (zbL b)]=mtS s b:=by
 cases s with
 | none=>cases b<;>decide +kernel
 | some v=>cases v<;>cases b<;>decide +kernel
section
variable (C:Addr)(K:Frag)
inductive KJ (vs:List V)(H:Hp)(Q:VK)(E9:XK):Prop
 | mk (c:Int) (n:Nat) (_:vs=[.int c,.int (n:Nat)]) (_:n<=8) (_:∀(q:Cb) (H':Hp),Same H H'->q.length=n->Q (.str (cbS q)) H'):KJ vs H Q E9
inductive U6 (vs:List V)(H:Hp)(Q:VK)(E9:XK):Prop
 | mk (q:Cb) (_:vs=[.str (cbS q)]) (_:q.length<=8) (_:∀(l:Addr) (H':Hp) (ps:List Addr),Same H H'->H l=none->H' l=some (.lst (ps.map V.ref))->Paired (zf6 H H') ps (cbR q)->Q (.ref l) H'):U6 vs H Q E9
def zdx (H:Hp)(l:Addr)(n:Nat)(f:Nat->Bool):Prop:=∃ps:List Addr,H l=some (.lst (ps.map V.ref))/\Paired (fun q r=>H q=some (.lst (zZ r))) ps ((allR n).filter fun r=>f (zx r))
inductive za3 (vs:List V)(H:Hp)(Q:VK)(E9:XK):Prop
 | mk (q:Cb) (yl:Addr) (f:Nat->Bool) (_:vs=[.str (cbS q),.ref yl]) (_:q.length<=8) (_:zdx H yl q.length f) (_:∀H',Same H H'->Q (.bl (inB q.length f q)) H'):za3 vs H Q E9
inductive Ni (vs:List V)(H:Hp)(Q:VK)(E9:XK):Prop
 | mk (q:Cb) (yl:Addr) (f:Nat->Bool) (_:vs=[.str (cbS q),.ref yl]) (_:q.length<=8) (_:zdx H yl q.length f) (_:∀H',Same H H'->Q (.bl (yE q.length f q)) H'):Ni vs H Q E9
end
theorem zdx.mono {H H':Hp}{l:Addr}{n:Nat}{f:Nat->Bool}(h:zdx H l n f)(g:Same H H'):zdx H' l n f:=let ⟨ps,a,b⟩:=h;⟨ps,g _ _ a,yO (fun _ _ z=>g _ _ z) b⟩
theorem zho {n:Nat}{f:Nat->Bool}{r:List Bool}(hr:r.length=n):r∈(allR n).filter (fun r=>f (zx r))↔f (zx r)=true:=by
 rw[List.mem_filter]
 refine⟨fun h=>h.2,fun h=>⟨?_,h⟩⟩
 have:=za0 r
 rwa [hr] at this
theorem zeQ {f:Nat->Bool}{q:Cb}:inB q.length f q=(cbR q).all fun r=>f (zx r):=by
 rw[ztS,Zi,ztG]
 unfold cbR
 constructor
 ·intro h r hr
  obtain⟨h1,h2⟩:=List.mem_filter.mp hr
  have hl:=vY _ r h1
  exact h (zx r) (by have:=Yt r;rwa [hl] at this) h2
 ·intro h b hb c
  obtain⟨r,hr,e⟩:=zjy hb
  have:=h r (List.mem_filter.mpr ⟨by have:=za0 r;rwa [hr] at this,by rw[e];exact c⟩)
  rwa [e] at this
where
 zjy {n b:Nat} (hb:b<2^n):∃r:List Bool,r.length=n/\zx r=b:=by
  refine⟨(List.range n).map fun i=>b.testBit i,by rw[ztc,ztu],zhi fun i=>?_⟩
  rw[wg,zte]
  by_cases hi:i<n
  ·rw[List.getElem?_range hi];rfl
  ·rw[ztM (by rw[ztu];omega)]
   exact(Nat.testBit_lt_two_pow (ztl hb (ztI (by decide) (by omega)))).symm
end xV
namespace L2
open PySem
theorem ifA {c:Bool}{A B:Prop}(e:c=true)(h:A):if c=true then A else B:=by rw[if_pos e];exact h
theorem ifB {c:Bool}{A B:Prop}(e:c=false)(h:B):if c=true then A else B:=by rw[e,if_neg ztg];exact h
end L2
namespace xV
open PySem L2 yN
open Classical in
noncomputable def za4 (F:uZ) (H:Hp):Hp:=fun x=>if F x then none else H x
theorem zcB {F:uZ}{H:Hp}{x:Addr}{o:HO}(h:H x=some o)(n:¬F x):za4 F H x=some o:=by
 unfold za4
 rw[if_neg n]
 exact h
abbrev ext (p:Nat)(q:Cb):Cb:=List.replicate p none++q
theorem Vd {q:Cb}{b:Nat}:xJ q b=true↔∀i v,q[i]?=some (some v)->b.testBit i=v:=by
 unfold xJ
 rw[ztG]
 constructor
 ·intro h i v e
  have hi:i<q.length:=(ztf.mp e).1
  have y:=h i (List.mem_range.mpr hi)
  rw[ztp,e] at y
  simpa using y
 ·intro h i hi
  rw[ztp]
  cases e:q[i]? with
  | none=>rfl
  | some s =>
   cases s with
   | none=>rfl
   | some v =>
    show(b.testBit i==v)=true
    rw[h i v e]
    simp
theorem za5 {p i:Nat}{q:Cb}{v:Bool}(h:(ext p q)[i]?=some (some v)):p<=i/\q[i-p]?=some (some v):=by
 unfold ext at h
 rcases Nat.lt_or_ge i p with z | z
 ·rw[ztJ (by rw[List.length_replicate];exact z),List.getElem?_replicate,if_pos z] at h
  cases h
 ·rw[List.getElem?_append_right (by rw[List.length_replicate];exact z),List.length_replicate] at h
  exact⟨z,h⟩
theorem zdy {p i:Nat}{q:Cb}:(ext p q)[p+i]?=q[i]?:=by
 unfold ext
 rw[List.getElem?_append_right (by rw[List.length_replicate];omega),List.length_replicate,Nat.add_sub_cancel_left]
theorem zhp {p i:Nat}{q:Cb}{s:Option Bool}:(ext p q).set (p+i) s=ext p (q.set i s):=by
 unfold ext
 rw[List.set_append,List.length_replicate,if_neg (by omega),Nat.add_sub_cancel_left]
theorem Rp {p:Nat}{q:Cb}:ext p (none::q)=ext (p+1) q:=by
 unfold ext
 rw[List.replicate_succ',List.append_assoc]
 rfl
theorem zk3 {p:Nat}{q:Cb}:(ext p q).length=p+q.length:=by
 unfold ext
 rw[ztk,List.length_replicate]
theorem yP {n p:Nat}{f:Nat->Bool}{q:Cb}:yE n f (ext p q)=true↔inB n f (ext p q)=true/\∀i v,q[i]?=some (some v)->inB n f (ext p (q.set i none))=false:=by
 unfold yE
 rw[ztE]
 refine and_congr_right fun _=>?_
 rw[Bool.not_eq_true',List.any_eq_false]
 unfold wid
 constructor
 ·intro h i v e
  have hi:i<q.length:=(ztf.mp e).1
  have m:p+i∈Mg (ext p q):=List.mem_filter.mpr ⟨List.mem_range.mpr (by rw[zk3];omega),by rw[ztp,zdy,e];rfl⟩
  have y:=h _ (List.mem_map.mpr ⟨_,m,rfl⟩)
  rw[zhp] at y
  simpa using y
 ·intro h r hr
  obtain⟨i,hi,rfl⟩:=List.mem_map.mp hr
  obtain⟨v,e⟩:=zeM hi
  obtain⟨z,e'⟩:=za5 e
  have y:=h _ _ e'
  have:i=p+(i-p):=by omega
  rw[this,zhp,y]
  exact ztg
section
variable {n p:Nat}{f:Nat->Bool}
abbrev side (f:Nat->Bool)(p:Nat)(v:Bool):Nat->Bool:=fun b=>f (zQ b p v)
abbrev both (f:Nat->Bool)(p:Nat):Nat->Bool:=fun b=>side f p false b&&side f p true b
theorem zdz {q:Cb}{b:Nat}{v:Bool}:xJ (ext (p+1) q) (zQ b p v)=xJ (ext (p+1) q) b:=by
 rw[ztS,Vd,Vd]
 have:∀i v',(ext (p+1) q)[i]?=some (some v')->(zQ b p v).testBit i=b.testBit i:=fun i v' e=>by
  have:=(za5 e).1
  rw[zU,if_neg (by omega)]
 exact⟨fun h i v' e=>by rw[<-this i v' e];exact h i v' e,fun h i v' e=>by rw[this i v' e];exact h i v' e⟩
theorem zdA {q:Cb}{b:Nat}{v:Bool}:xJ (ext p (some v::q)) b=(b.testBit p==v&&xJ (ext (p+1) q) b):=by
 rw[ztS,ztE,Vd,Vd,beq_iff_eq]
 constructor
 ·intro h
  refine⟨h p v (by have:=zdy (p:=p) (i:=0) (q:=some v::q);rw[Nat.add_zero] at this;rw[this];rfl),fun i v' e=>?_⟩
  obtain⟨z,e'⟩:=za5 e
  refine h i v' ?_
  have:i=p+(i-(p+1)+1):=by omega
  rw[this,zdy]
  exact e'
 ·rintro⟨h1,h2⟩ i v' e
  obtain⟨z,e'⟩:=za5 e
  rcases Nat.eq_or_lt_of_le z with y | y
  ·subst y
   rw[Nat.sub_self] at e'
   cases e'
   exact h1
  ·refine h2 i v' ?_
   have e1:i=p+1+(i-(p+1)):=by omega
   rw[e1,zdy]
   have e2:i-p=(i-(p+1))+1:=by omega
   rw[e2] at e'
   exact e'
theorem QC (hp:p<n)(q:Cb):inB n f (ext (p+1) q)=inB n (both f p) (ext (p+1) q):=by
 rw[ztS,Zi,Zi]
 constructor
 ·intro h b hb c
  show(f _&&f _)=true
  rw[h _ (zW hb hp) (by rw[zdz];exact c),h _ (zW hb hp) (by rw[zdz];exact c)]
  rfl
 ·intro h b hb c
  have y:(f (zQ b p false)&&f (zQ b p true))=true:=h b hb c
  rw[ztE] at y
  have:=yL b p
  cases e:b.testBit p with
  | false=>rw[e] at this;rw[<-this];exact y.1
  | true=>rw[e] at this;rw[<-this];exact y.2
theorem zao (hp:p<n)(q:Cb)(v:Bool):inB n f (ext p (some v::q))=inB n (side f p v) (ext (p+1) q):=by
 rw[ztS,Zi,Zi]
 constructor
 ·intro h b hb c
  refine h _ (zW hb hp) ?_
  rw[zdA,zdz,c,zU,if_pos rfl]
  simp
 ·intro h b hb c
  rw[zdA,ztE,beq_iff_eq] at c
  have y:f (zQ b p v)=true:=h b hb c.2
  have e:=yL b p
  rw[c.1] at e
  rw[<-e]
  exact y
theorem zjz (q:Cb)(v:Bool)(h:inB n (both f p) q=true):inB n (side f p v) q=true:=by
 rw[Zi] at h ⊢
 intro b hb c
 have y:(f (zQ b p false)&&f (zQ b p true))=true:=h b hb c
 rw[ztE] at y
 cases v
 ·exact y.1
 ·exact y.2
theorem za6 (hp:p<n)(q:Cb):yE n f (ext p (none::q))=yE n (both f p) (ext (p+1) q):=by
 rw[Rp,ztS,yP,yP,QC hp]
 refine and_congr_right fun _=>⟨fun h i v e=>?_,fun h i v e=>?_⟩
 ·rw[<-QC hp];exact h i v e
 ·rw[QC hp];exact h i v e
theorem Nj (hp:p<n)(q:Cb)(v:Bool):yE n f (ext p (some v::q))=(yE n (side f p v) (ext (p+1) q)&&!yE n (both f p) (ext (p+1) q)):=by
 rw[ztS,ztE,yP,yP,zao hp]
 constructor
 ·rintro⟨h1,h2⟩
  have h0:=h2 0 v rfl
  have h0:inB n f (ext p (none::q))=false:=h0
  rw[Rp,QC hp] at h0
  refine⟨⟨h1,fun i u e=>?_⟩,?_⟩
  ·have y:inB n f (ext p (some v::q.set i none))=false:=h2 (i+1) u e
   rw[zao hp] at y
   exact y
  ·cases e:yE n (both f p) (ext (p+1) q) with
   | false=>rfl
   | true=>rw[yP] at e;rw[e.1] at h0;cases h0
 ·rintro⟨⟨h1,h2⟩,h3⟩
  have nb:inB n (both f p) (ext (p+1) q)=false:=by
   cases e:inB n (both f p) (ext (p+1) q) with
   | false=>rfl
   | true =>
    exfalso
    have:yE n (both f p) (ext (p+1) q)=true:=yP.mpr ⟨e,fun i u e'=>by
     cases e2:inB n (both f p) (ext (p+1) (q.set i none)) with
     | false=>rfl
     | true=>have:=zjz _ v e2;rw[h2 i u e'] at this;cases this⟩
    rw[this] at h3
    cases h3
  refine⟨h1,fun i u e=>?_⟩
  cases i with
  | zero =>
   show inB n f (ext p (none::q))=false
   rw[Rp,QC hp]
   exact nb
  | succ i =>
   show inB n f (ext p (some v::q.set i none))=false
   rw[zao hp]
   exact h2 i u e
end
theorem zjA:∀(q:Cb) (p:Nat),∃b,b<2^(p+q.length)/\xJ (ext p q) b=true
 | [],p=>⟨0,Nat.pow_pos (by decide),Vd.mpr fun i v e=>by have:=(za5 e).2;cases this⟩
 | s::q,p=>by
  obtain⟨b,h1,h2⟩:=zjA q (p+1)
  have e1:p+(s::q).length=p+1+q.length:=by rw[zto];omega
  cases s with
  | none=>exact⟨b,by rw[e1];exact h1,by rw[Rp];exact h2⟩
  | some v=>exact⟨zQ b p v,by rw[e1];exact zW h1 (by omega),by rw[zdA,zdz,h2,zU,if_pos rfl];simp⟩
def ltC:Cb->Cb->Prop
 | a::x,b::y=>Ua a<Ua b\/(a=b/\ltC x y)
 | _,_=>False
theorem zjB:∀{a b:Cb},ltC a b->a≠b
 | a::x,b::y,h=>fun e=>by
  cases e
  rcases h with h | h
  ·exact Nat.lt_irrefl _ h
  ·exact zjB h.2 rfl
def bnd:Nat->Nat
 | 0=>1
 | 1=>1
 | 2=>2
 | d+3=>3*bnd (d+2)
structure QZ (n p:Nat)(f:Nat->Bool)(qs:List Cb):Prop where
 mem:∀q,q∈qs↔q.length=n-p/\yE n f (ext p q)=true
 up:qs.Pairwise ltC
 len:qs.length<=3^(n-p-1)
 fw:qs.length<=bnd (n-p)
theorem QZ.nd {n p:Nat}{f:Nat->Bool}{qs:List Cb}(h:QZ n p f qs):qs.Nodup:=h.up.imp zjB
theorem zhq:∀d,1<=bnd d
 | 0=>zts _
 | 1=>zts _
 | 2=>by decide
 | d+3=>by
  have:=zhq (d+2)
  show 1<=3*bnd (d+2)
  omega
theorem QZ.none_of {n p:Nat}{f:Nat->Bool}(hp:p<=n)(h:∀b,b<2^n->f b=false){q:Cb}(l:q.length=n-p):yE n f (ext p q)=false:=by
 cases e:yE n f (ext p q) with
 | false=>rfl
 | true =>
  rw[yP] at e
  obtain⟨b,h1,h2⟩:=zjA q p
  have e1:p+q.length=n:=by omega
  rw[e1] at h1
  have y:=Zi.mp e.1 b h1 h2
  rw[h b h1] at y
  cases y
theorem QZ.no {n p:Nat}{f:Nat->Bool}(hp:p<=n)(h:∀b,b<2^n->f b=false):QZ n p f [] :=
 ⟨fun q=>⟨fun z=>(by cases z),fun⟨l,e⟩=>(by rw[QZ.none_of hp h l] at e;cases e)⟩,.nil,ztz _,ztz _⟩
theorem QZ.yes {n p:Nat}{f:Nat->Bool}(hp:p<=n)(h:∀b,b<2^n->f b=true):QZ n p f [List.replicate (n-p) none]:=by
 have al:∀q,inB n f q=true:=fun q=>Zi.mpr fun b hb _=>h b hb
 refine⟨fun q=>?_,List.pairwise_singleton _ _,Nat.pow_pos (by decide),zhq _⟩
 rw[List.mem_singleton,yP]
 constructor
 ·rintro rfl
  refine⟨List.length_replicate,al _,fun i v e=>?_⟩
  rw[List.getElem?_replicate] at e
  split at e<;>cases e
 ·rintro⟨l,_,e⟩
  refine List.ext_getElem? fun i=>?_
  rw[List.getElem?_replicate]
  rcases Nat.lt_or_ge i (n-p) with z | z
  ·rw[if_pos z]
   cases e':q[i]? with
   | none=>rw[List.getElem?_eq_none_iff] at e';omega
   | some s =>
    cases s with
    | none=>rfl
    | some v=>have:=e i v e';rw[al] at this;cases this
  ·rw[if_neg (by omega),List.getElem?_eq_none_iff]
   omega
theorem QZ.nil {n p:Nat}{f:Nat->Bool}{qs:List Cb}(P:QZ n p f qs)(hp:p<=n)(h:∀b,b<2^n->f b=false):qs=[]:=by
 refine List.eq_nil_iff_forall_not_mem.mpr fun q hq=>?_
 obtain⟨l,e⟩:=(P.mem q).mp hq
 rw[QZ.none_of hp h l] at e
 cases e
theorem zjC {n p:Nat}{f:Nat->Bool}{E Z O:List Cb}(hp:p+2=n)(he:QZ n (p+1) (both f p) E)(hz:QZ n (p+1) (side f p false) Z)(ho:QZ n (p+1) (side f p true) O) :
  E.length+(Z.filter fun q=>!E.contains q).length+(O.filter fun q=>!E.contains q).length<=2:=by
 have e0:n-(p+1)-1=0:=by omega
 have le:=he.len
 have lz:=hz.len
 have lo:=ho.len
 rw[e0,Nat.pow_zero] at le lz lo
 have l1:=ztL (fun q=>!E.contains q) Z
 have l2:=ztL (fun q=>!E.contains q) O
 refine Nat.le_of_not_lt fun gt=>?_
 obtain⟨e,rfl⟩:=List.length_eq_one_iff.mp (show E.length=1 by omega)
 obtain⟨z,rfl⟩:=List.length_eq_one_iff.mp (show Z.length=1 by omega)
 obtain⟨o,rfl⟩:=List.length_eq_one_iff.mp (show O.length=1 by omega)
 have nz:z≠e:=fun h=>by
  subst h
  have:([z].filter fun q=>![z].contains q).length=0:=by simp
  rw[this] at gt
  omega
 have no:o≠e:=fun h=>by
  subst h
  have:([o].filter fun q=>![o].contains q).length=0:=by simp
  rw[this] at gt
  omega
 obtain⟨ae,be⟩:=(he.mem e).mp (List.mem_singleton.mpr rfl)
 obtain⟨az,bz⟩:=(hz.mem z).mp (List.mem_singleton.mpr rfl)
 obtain⟨ao,bo⟩:=(ho.mem o).mp (List.mem_singleton.mpr rfl)
 have q1:p+1<n:=by omega
 have one:∀{c:Cb},c.length=n-(p+1)->∃s,c=[s]:=fun {c} h=>List.length_eq_one_iff.mp (by omega)
 obtain⟨se,rfl⟩:=one ae
 obtain⟨sz,rfl⟩:=one az
 obtain⟨so,rfl⟩:=one ao
 have ie:=(yP.mp be).1
 have key:∀(v:Bool) (s:Option Bool),[s]≠[se]->yE n (side f p v) (ext (p+1) [s])=true->inB n (side f p v) (ext (p+1) [none])=true:=fun v s ns h=>by
  have hs:=zjz _ v ie
  have hp:=yP.mp h
  cases s with
  | none=>exact hp.1
  | some u =>
   cases se with
   | none=>exact hs
   | some t =>
    have ut:u=!t:=by
     cases u<;>cases t<;>first | rfl | exact absurd rfl ns
    have a1:=hp.1
    rw[zao q1] at a1 hs
    rw[Rp,QC q1]
    rw[Zi] at a1 hs ⊢
    intro b hb c
    show(side (side f p v) (p+1) false b&&side (side f p v) (p+1) true b)=true
    have x1:=a1 b hb c
    have x2:=hs b hb c
    subst ut
    cases t
    ·rw[show side (side f p v) (p+1) true b=true from x1,show side (side f p v) (p+1) false b=true from x2];rfl
    ·rw[show side (side f p v) (p+1) false b=true from x1,show side (side f p v) (p+1) true b=true from x2];rfl
 have k0:=key false sz nz bz
 have k1:=key true so no bo
 have kb:inB n (both f p) (ext (p+1) [none])=true:=by
  rw[Zi] at k0 k1 ⊢
  intro b hb c
  show(side f p false b&&side f p true b)=true
  rw[k0 b hb c,k1 b hb c];rfl
 cases se with
 | some t =>
  have:=(yP.mp be).2 0 t rfl
  rw[show inB n (both f p) (ext (p+1) ([some t].set 0 none))=true from kb] at this
  cases this
 | none =>
  cases sz with
  | none=>exact nz rfl
  | some u =>
   have:=(yP.mp bz).2 0 u rfl
   rw[show inB n (side f p false) (ext (p+1) ([some u].set 0 none))=true from k0] at this
   cases this
theorem QZ.step {n p:Nat}{f:Nat->Bool}{E Z O:List Cb}(hp:p<n)(fr:∀i,i<p->Free n f i)(n1:¬∀b,b<2^n->f b=true)(he:QZ n (p+1) (both f p) E)(hz:QZ n (p+1) (side f p false) Z)(ho:QZ n (p+1) (side f p true) O) :
  QZ n p f (E.map (none::·)++(Z.filter fun q=>!E.contains q).map (some false::·)++(O.filter fun q=>!E.contains q).map (some true::·)):=by
 have ed:n-p=n-(p+1)+1:=by omega
 have inE:∀q:Cb,q.length=n-(p+1)->(!E.contains q)=!yE n (both f p) (ext (p+1) q):=fun q l=>by
  congr 1
  rw[ztS,List.contains_iff_mem,he.mem]
  exact⟨fun h=>h.2,fun h=>⟨l,h⟩⟩
 have LEN:E.length+(Z.filter fun q=>!E.contains q).length+(O.filter fun q=>!E.contains q).length<=3^(n-p-1):=by
  have l1:=ztL (fun q=>!E.contains q) Z
  have l2:=ztL (fun q=>!E.contains q) O
  rcases Nat.eq_or_lt_of_le (show 1<=n-p by omega) with z | z
  ·
   have e0:n-p-1=0:=by omega
   rw[e0]
   have ep:p+1=n:=by omega
   have cz:=YM (n:=n) (f:=side f p false) fun i hi=>Qy hp fr i (by omega)
   have co:=YM (n:=n) (f:=side f p true) fun i hi=>Qy hp fr i (by omega)
   have le:=he.len
   have lz:=hz.len
   have lo:=ho.len
   have e1:n-(p+1)-1=0:=by omega
   rw[e1] at le lz lo
   have zlG:side f p false 0=false\/side f p true 0=false:=by
    rcases h0:side f p false 0 with _ | _
    ·exact .inl rfl
    ·rcases h1:side f p true 0 with _ | _
     ·exact .inr rfl
     ·exfalso
      refine n1 fun b hb=>?_
      have e:=yL b p
      have a1:=cz b hb
      have a2:=co b hb
      rw[h0] at a1
      rw[h1] at a2
      cases e':b.testBit p with
      | false=>rw[e'] at e;rw[<-e];exact a1
      | true=>rw[e'] at e;rw[<-e];exact a2
   have eE:E=[]:=he.nil (by omega) fun b hb=>by
    show(side f p false b&&side f p true b)=false
    rw[cz b hb,co b hb]
    rcases zlG with z | z<;>rw[z]<;>simp
   have e3:E.length=0:=by rw[eE];rfl
   rw[Nat.pow_zero] at le lz lo ⊢
   rcases zlG with z | z
   ·have:Z.length=0:=by rw[hz.nil (by omega) fun b hb=>by rw[cz b hb,z]];rfl
    omega
   ·have:O.length=0:=by rw[ho.nil (by omega) fun b hb=>by rw[co b hb,z]];rfl
    omega
  ·have e:n-p-1=n-(p+1)-1+1:=by omega
   rw[e,Nat.pow_succ]
   have:=he.len
   have:=hz.len
   have:=ho.len
   omega
 refine⟨fun q=>?_,?_,?_,?_⟩
 ·rw[List.mem_append,List.mem_append,List.mem_map,List.mem_map,List.mem_map]
  constructor
  ·rintro ((⟨r,hr,rfl⟩ | ⟨r,hr,rfl⟩) | ⟨r,hr,rfl⟩)
   ·obtain⟨l,e⟩:=(he.mem r).mp hr
    exact⟨by rw[zto,l,ed],by rw[za6 hp];exact e⟩
   ·obtain⟨h1,h2⟩:=List.mem_filter.mp hr
    obtain⟨l,e⟩:=(hz.mem r).mp h1
    rw[inE r l] at h2
    exact⟨by rw[zto,l,ed],by rw[Nj hp,e,h2];rfl⟩
   ·obtain⟨h1,h2⟩:=List.mem_filter.mp hr
    obtain⟨l,e⟩:=(ho.mem r).mp h1
    rw[inE r l] at h2
    exact⟨by rw[zto,l,ed],by rw[Nj hp,e,h2];rfl⟩
  ·rintro⟨l,e⟩
   cases q with
   | nil=>rw[ed] at l;cases l
   | cons s r =>
    have lr:r.length=n-(p+1):=by rw[zto,ed] at l;omega
    cases s with
    | none=>rw[za6 hp] at e;exact .inl (.inl ⟨r,(he.mem r).mpr ⟨lr,e⟩,rfl⟩)
    | some v =>
     rw[Nj hp,ztE] at e
     cases v with
     | false=>exact .inl (.inr ⟨r,List.mem_filter.mpr ⟨(hz.mem r).mpr ⟨lr,e.1⟩,by rw[inE r lr];exact e.2⟩,rfl⟩)
     | true=>exact .inr ⟨r,List.mem_filter.mpr ⟨(ho.mem r).mpr ⟨lr,e.1⟩,by rw[inE r lr];exact e.2⟩,rfl⟩
 ·have one:∀{L:List Cb} (s:Option Bool),L.Pairwise ltC->(L.map (s::·)).Pairwise ltC:=fun {L} s h=>List.pairwise_map.mpr (h.imp fun h=>.inr ⟨rfl,h⟩)
  have two:∀{L M:List Cb} {s t:Option Bool},Ua s<Ua t->∀x∈L.map (s::·),∀y∈M.map (t::·),ltC x y:=fun {L M s t} h x hx y hy=>by
   obtain⟨a,_,rfl⟩:=List.mem_map.mp hx
   obtain⟨c,_,rfl⟩:=List.mem_map.mp hy
   exact .inl h
  refine List.pairwise_append.mpr ⟨List.pairwise_append.mpr ⟨one _ he.up,one _ (hz.up.filter _),two (by decide)⟩,one _ (ho.up.filter _),fun x hx y hy=>?_⟩
  rcases List.mem_append.mp hx with z | z
  ·exact two (by decide) x z y hy
  ·exact two (by decide) x z y hy
 ·rw[ztk,ztk,ztc,ztc,ztc]
  exact LEN
 ·rw[ztk,ztk,ztc,ztc,ztc]
  have l1:=ztL (fun q=>!E.contains q) Z
  have l2:=ztL (fun q=>!E.contains q) O
  match hd:n-p,(show 1<=n-p by omega) with
  | 1,_ =>
   have z:n-p-1=0:=by omega
   rw[z] at LEN
   exact LEN
  | 2,_=>exact zjC (by omega) he hz ho
  | d+3,_ =>
   have e:n-(p+1)=d+2:=by omega
   have a1:=he.fw
   have a2:=hz.fw
   have a3:=ho.fw
   rw[e] at a1 a2 a3
   show _<=3*bnd (d+2)
   omega
end xV
namespace L2
open PySem PySem.Spec PyProof.Rows
section
variable {K:Frag}{σ:St}{js:List Nat}{tt:TT}{te:TE}{H:Hp}{Qf:Addr->Hp->List V->Prop}
theorem za7 {a:Addr}{α:Type}(c:α->V){ps:List α}(p:α->Bool)(hq:zP K H a (ps.map c))(hz:ps.length<=sizeLine)(hte:∀x H' Q,Q x H'->te (Zx σ js (some x)) H' Q)
  (hs:∀(x:α) H' (Q:Bool->Hp->Prop),x∈ps->Same H H'->(∀H2,Same H H2->Q (p x) H2)->tt (Zx σ js (some (c x))) H' Q)
  (hd:∀H' l,Same H H'->H' l=none->Qf l H' ((ps.filter p).map c)) :
  ∃W:Nat->Nat->List V->Hp->Prop,(∃m,W 0 m [] H)/\∀i m ys H,W i m ys H ->
   ((Itl K a).stop i H/\∀p,H p=none->Qf p H ys) \/
   ((Itl K a).go i H/\ys.length<sizeLine/\∀x H',(Itl K a).Qe i H x H'->tt (Zx σ js (some x)) H' fun b H2 =>
    if b=true then te (Zx σ js (some x)) H2 fun v H3=>∃m',m'<m/\W (i+1) m' (ys++[v]) H3 else ∃m',m'<m/\W (i+1) m' ys H2):=by
 have ln:(ps.map c).length=ps.length:=ztc _
 refine⟨fun i m ys H'=>m=ps.length-i/\i<=ps.length/\Same H H'/\ys=((ps.take i).filter p).map c,⟨_,by rw[Nat.sub_zero],ztz _,Same.refl _,rfl⟩,?_⟩
 rintro i m ys H1 ⟨rfl,hi,g,rfl⟩
 have hy:(((ps.take i).filter p).map c).length<=i:=by
  have:=ztL p (ps.take i)
  rw[ztA] at this
  rw[ztc]
  omega
 by_cases hlt:i<ps.length
 ·have hb:ps[i]?=some ps[i]:=ztd hlt
  generalize ps[i]=b at hb
  have hv:(ps.map c)[i]?=some (c b):=by rw[zte,hb];rfl
  refine .inr ⟨⟨_,_,g.seq hq,hv⟩,by omega,fun x H' y=>?_⟩
  obtain⟨e,y⟩:=y
  subst e
  have ex:=y _ (g.seq hq)
  rw[hv] at ex
  cases ex
  refine hs b _ _ (zth hb) g fun H2 g2=>?_
  cases e:p b with
  | true =>
   rw[if_pos rfl]
   refine hte _ _ _ ⟨_,Nat.sub_lt_sub_left hlt (Nat.lt_succ_self i),rfl,hlt,g2,?_⟩
   rw[yj hb,ztQ,List.filter_cons_of_pos e,ztq]
   rfl
  | false =>
   rw[if_neg ztg]
   refine⟨_,Nat.sub_lt_sub_left hlt (Nat.lt_succ_self i),rfl,hlt,g2,?_⟩
   rw[yj hb,ztQ,List.filter_cons_of_neg (by rw[e];exact ztg),List.filter_nil,List.append_nil]
 ·have e:i=ps.length:=by omega
  subst e
  refine .inl ⟨⟨_,g.seq hq,by rw[ln];exact zts _⟩,fun l hl=>?_⟩
  rw[ztF]
  exact hd _ l g hl
theorem QD {a:Addr}{α:Type}(c e:α->V){ps:List α}(hq:zP K H a (ps.map c))(hz:ps.length<=sizeLine)
  (hs:∀(x:α) H' (Q:V->Hp->Prop),x∈ps->Same H H'->(∀H3,Same H' H3->Q (e x) H3)->te (Zx σ js (some (c x))) H' Q)
  (hd:∀H' p,Same H H'->H' p=none->Qf p H' (ps.map e)) :
  ∃W:Nat->Nat->List V->Hp->Prop,(∃m,W 0 m [] H)/\∀i m ys H,W i m ys H ->
   ((Itl K a).stop i H/\∀p,H p=none->Qf p H ys) \/
   ((Itl K a).go i H/\ys.length<sizeLine/\∀x H',(Itl K a).Qe i H x H'->Sv (Zx σ js (some x)) H' fun b H2 =>
    if b=true then te (Zx σ js (some x)) H2 fun v H3=>∃m',m'<m/\W (i+1) m' (ys++[v]) H3 else ∃m',m'<m/\W (i+1) m' ys H2):=by
 refine Rk (xs:=ps.map c) (fun i ys H'=>Same H H'/\ys=(ps.take i).map e) ⟨Same.refl _,rfl⟩ (by rw[ztc];exact hz) ?_ ?_ ?_
 ·rintro i ys H' hi ⟨g,rfl⟩
  exact⟨g.seq hq,by rw[ztc,ztA];omega⟩
 ·rintro i x ys H' Q hx ⟨g,rfl⟩ h
  rw[zte] at hx
  cases e1:ps[i]? with
  | none=>rw[e1] at hx;cases hx
  | some y =>
   rw[e1] at hx
   cases hx
   refine hs y H' Q (zth e1) g fun H3 g3=>h _ _ ⟨g.trans g3,?_⟩
   rw[yj e1,ztq]
   rfl
 ·rintro ys H' p ⟨g,rfl⟩ hp
  rw[ztc,ztF]
  exact hd H' p g hp
end
end L2
namespace xV
open PySem L2 yN
abbrev cbV (q:Cb):V:=.str (cbS q)
inductive Ub (d:Nat)(vs:List V)(H:Hp)(Q:VK)(E9:XK):Prop
 | mk (N p n:Nat) (f:Nat->Bool) (_:vs=[.int (N:Nat),.int (p:Nat),.int (n:Nat)]) (_:n<=8) (_:p<=n) (_:n+1<=p+d) (_:z9 n N f) (_:∀i,i<p->Free n f i) (_:∀(l:Addr) (qs:List Cb) (H':Hp),Same H H'->H l=none->H' l=some (.lst (qs.map cbV))->QZ n p f qs->Q (.ref l) H'):Ub d vs H Q E9
inductive za8 (C:Addr)(vs:List V)(H:Hp)(Q:VK)(E9:XK):Prop
 | mk (b:Addr) (os:List Str) (rs:List Rm) (F:uZ) (k:Nat) (_:vs=[.ref b,.int (k:Nat)]) (_:yV C H b os rs F) (_:k<rs.length) (_:∀(l:Addr) (qs:List Cb) (H':Hp),Same H H'->H l=none->H' l=some (.lst (qs.map cbV))->QZ os.length 0 (tB rs k) qs->Q (.ref l) H'):za8 C vs H Q E9
theorem zjD {E:List Cb}{q:Cb}:inV (cbV q) (E.map cbV)=E.contains q:=by
 have e:E.map cbV=(E.map cbS).map V.str:=by rw[ztO];rfl
 rw[e,zhh,ztS,List.contains_iff_mem,List.contains_iff_mem,List.mem_map]
 exact⟨fun⟨r,h,e⟩=>by rw[<-zal e];exact h,fun h=>⟨q,h,rfl⟩⟩
theorem zhr (E:List Cb):(E.map cbV).all wC=true:=by
 rw[List.all_map,ztG]
 exact fun _ _=>rfl
theorem QZ.few {n p:Nat}{f:Nat->Bool}{qs:List Cb}(h:QZ n p f qs)(n8:n<=8):qs.length<=2187:=by
 have a:=h.len
 have p3:3^(n-p-1)<=3^7:=ztI (by decide) (by omega)
 have e:3^7=2187:=rfl
 omega
theorem wz {n:Nat}(h:n<=10000):n<=sizeLine:=zty h (by decide)
theorem zjE {n i:Nat}{f g:Nat->Bool}(h:Free n f i)(k:Free n g i):Free n (fun b=>f b&&g b) i:=fun b hb v=>by
 show(f (zQ b i v)&&g (zQ b i v))=(f b&&g b)
 rw[h b hb v,k b hb v]
theorem zdB (s:Option Bool)(q:Cb){y:Str}(e:y=cbS [s]):V.str (y++cbS q)=cbV (s::q):=by rw[e,XF];rfl
theorem nought:Str.ofString "0"=cbS [some false]:=by decide +kernel
theorem zpE:Str.ofString "1"=cbS [some true]:=by decide +kernel
end xV
namespace L2
open PySem PySem.Spec PyProof.Rows
section
variable {X:Cx}
def znV:V->List V->Hp->VK->Prop:=fun x vs H Q=>∃d kvs k v,x=.ref d/\vs=[kV k]/\H d=some (.dK kvs)/\ZD kvs k=some v/\Q v (upd H d (.dK (Jl kvs k)))
theorem zk4:MtM X "dict.pop" znV:=by
 intro pins s σ H x vs v us Q I rx rv h
 obtain⟨d,kvs,k,y,rfl,rfl,hH,hv,q⟩:=h
 cases rx
 obtain⟨u,rfl,ru⟩:=rv.one
 exact znF I hH ru hv (.inl rfl) fun w' s' I' r'=>⟨y,_,I',r',q⟩
end
def Itw (d:Addr)(o:Obj)(kvs:List (Key×V)):It :=
 ⟨fun i H=>H d=some (.frz o (.dK kvs))/\i<kvs.length,fun i H x H'=>H'=H/\∃p,kvs[i]?=some p/\x=p.2,fun i H=>H d=some (.frz o (.dK kvs))/\kvs.length<=i⟩
theorem zh4 {P:Program}{w:World}{K:Frag}{tg:Expr}{h0:Heap}{d:Addr}{o:Obj}{vs0:List (Key×Value)}{kvs:List (Key×V)}{ep:Nat}(ho:h0.get? d=some o)(at0:h0.DictAt (yx P w) d vs0 ep)(it:Addr):Turn P w K tg (Itw d o kvs) [it] it (fun i h=>h.IsValIter it d i kvs.length ep) where
 mem:=by simp
 obj:=fun i h st b hb=>by
  have e:b=it:=by simpa using hb
  subst e
  obtain⟨o,e,c,d⟩:=st
  exact⟨o,e,fun v z=>by rw[d] at z;cases z⟩
 keep:=fun i h h' st k=>by
  obtain⟨o,e,c,d⟩:=st
  exact⟨o,k it (by simp) o e,c,d⟩
 item:=by
  intro X hP hw hK hc i pins s σ H E I hf st hg
  subst hP hw hK
  obtain⟨hd,hi⟩:=hg
  obtain⟨ho1,hz,lo,vs,rv,hD⟩:=(show s.heap.get? d=some o/\kvs.length<=sizeLine/\(d==sysModules)=false/\∃vs,KV kvs vs/\s.heap.DictOf (yx X.prog X.w) d vs from I.hok d _ hd)
  obtain⟨ep',hat⟩:=hD.dictAt
  obtain rfl:=zhj ho ho1 at0 hat
  have hl:kvs.length=vs.length:=Paired.length rv
  obtain⟨f0,f1,f2,f3,f4,f5⟩:=hf it (by simp)
  obtain⟨q,hq,rq⟩:=tO rv (ztd hi)
  rw[hl] at st
  refine wpAny_pyNext_values_item st hat (k:=q.1) (v:=q.2) hq fun h' st' sb=>?_
  rw[<-hl] at st'
  have I1:Inv X pins σ H { s with heap:=h' }:=I.turned (t':=s.toks) (fun b o hb e=>(sb.2 b hb).trans e) f0 f1 f3 f4 f5
  obtain⟨o,e,c,d⟩:=id st'
  exact⟨q.2,rfl,zef (s:={ s with heap:=h' }) e c d (by decide) ⟨(kvs[i]).2,H,I1,rq.2,⟨rfl,kvs[i],ztd hi,rfl⟩,st',fun b hb=>(hf b hb).1⟩⟩
 done:=by
  intro X hP hw hK hc i pins s σ H E I hf st hg
  subst hP hw hK
  obtain⟨hd,hi⟩:=hg
  obtain⟨ho1,hz,lo,vs,rv,hD⟩:=(show s.heap.get? d=some o/\kvs.length<=sizeLine/\(d==sysModules)=false/\∃vs,KV kvs vs/\s.heap.DictOf (yx X.prog X.w) d vs from I.hok d _ hd)
  obtain⟨ep',hat⟩:=hD.dictAt
  obtain rfl:=zhj ho ho1 at0 hat
  have hl:kvs.length=vs.length:=Paired.length rv
  obtain⟨f0,f1,f2,f3,f4,f5⟩:=hf it (by simp)
  rw[hl] at st
  exact wpAny_pyNext_values_end (I.ok.hd hc) st hat (ztM (by omega)) fun h' eb=>⟨rfl,I.turned (t':=s.toks) (fun b o hb e=>eb b o hb e) f0 f1 f3 f4 f5⟩
 self:=fun _ _ _ _ _ st h=>wpAny_pyIter_valiter st h
section
variable {X:Cx}{tg:Expr}
def znX (tl:TE):TI:=fun σ H R=>tl σ H fun x H1=>∃d kvs,x=.ref d/\H1 d=some (.dK kvs)/\∀o,R (Itw d o kvs) (upd H1 d (.frz o (.dK kvs)))
theorem zk5 {o:Expr}{tl:TE}{apos cpos:Pos}(ho:PE X o tl)
  (hbase:attributeBase o "values" X.env (eval o X.env)=eval o X.env:=by rfl)(hline:(apos.endLine==cpos.line)=true:=by rfl):PI X tg (.Call (.Attribute o "values" apos) [] [] cpos) (znX tl):=by
 intro pins s σ H R I h
 refine wpAny_Call_method0_late hbase hline (wD (ho pins s σ H _ I h) fun v s1 ⟨x,H1,I1,r1,q1⟩=>?_)
 obtain⟨d,kvs,rfl,hd,q⟩:=q1
 obtain⟨h1,h2⟩:=zcZ (T := "dict") I1 r1 (.inr (.inr (.inl ⟨rfl,.inl ⟨kvs,hd⟩⟩)))
 cases r1
 obtain⟨hz,lo,vs,rv,hD⟩:=(show kvs.length<=sizeLine/\(d==sysModules)=false/\∃vs,KV kvs vs/\s1.heap.DictOf (yx X.prog X.w) d vs from I1.hok d _ hd)
 obtain⟨ep,hat⟩:=hD.dictAt
 obtain⟨o,es,ho,rest⟩:=id hat
 have hl:kvs.length=vs.length:=Paired.length rv
 refine⟨"dict", "dict.values", PySem.F.plainAttrs_dict,PySem.F.slot_dict_values,PySem.F.type_dict_values,h1,h2,Calls.callWith_builtin rfl (PySem.evalArgs_none ?_)⟩
 refine call_meetsIn PySem.F.slot_dict_values hD.typeIs PySem.F.entry_dict_values (PySem.F.args_dict_values_1 _) (meets_dict_values (yx X.prog X.w) d lo) ⟨⟨vs,hD⟩,?_⟩
 have I2:=(I1.held hd ho).kept (t':=s1.toks) (h':=s1.heap.push { cls:=.type "dict_values", data:=.fields #[.ref d] }) fun b o e=>zti _ e
 have ho2:(s1.heap.push { cls:=.type "dict_values", data:=.fields #[.ref d] }).get? d=some o:=zti _ ho
 have zf9:(s1.heap.push { cls:=.type "dict_values", data:=.fields #[.ref d] }).DictAt (yx X.prog X.w) d vs ep:=⟨o,es,ho2,rest⟩
 refine wpAny_pyIter_values (s:={ s1 with heap:=s1.heap.push { cls:=.type "dict_values", data:=.fields #[.ref d] } }) ⟨_,ztx _ rfl,rfl,rfl⟩ zf9 ?_
 rw[<-hl]
 generalize s1.heap.push { cls:=.type "dict_values", data:=.fields #[.ref d] }=h2' at I2 ho2 zf9 ⊢
 refine⟨h2'.objs.size,[h2'.objs.size],_,_,_,rfl,I2.kept (t':=s1.toks) fun b o e=>zti _ e,zh4 ho2 zf9 _,⟨_,ztx _ rfl,rfl,rfl⟩,fun b hb=>?_,q o⟩
 have e:b=h2'.objs.size:=by simpa using hb
 subst e
 exact I2.zee (zts _) (I2.hok.fresh (zts _))
end
theorem zk6 {d:Addr}{o:Obj}{kvs:List (Key×V)}{σ:St}{js:List Nat}{te:TE}{H:Hp}{Qf:Addr->Hp->List V->Prop}(Pv:Nat->List V->Hp->Prop)(h0:Pv 0 [] H)(hz:kvs.length<=sizeLine)
  (hl:∀i ys H,i<=kvs.length->Pv i ys H->H d=some (.frz o (.dK kvs))/\ys.length<=i)
  (hs:∀i p ys H (Q:V->Hp->Prop),kvs[i]?=some p->Pv i ys H->(∀v H3,Pv (i+1) (ys++[v]) H3->Q v H3)->te (Zx σ js (some p.2)) H Q)
  (hd:∀ys H p,Pv kvs.length ys H->H p=none->Qf p H ys) :
  ∃W:Nat->Nat->List V->Hp->Prop,(∃m,W 0 m [] H)/\∀i m ys H,W i m ys H ->
   ((Itw d o kvs).stop i H/\∀p,H p=none->Qf p H ys) \/
   ((Itw d o kvs).go i H/\ys.length<sizeLine/\∀x H',(Itw d o kvs).Qe i H x H'->Sv (Zx σ js (some x)) H' fun b H2 =>
    if b=true then te (Zx σ js (some x)) H2 fun v H3=>∃m',m'<m/\W (i+1) m' (ys++[v]) H3 else ∃m',m'<m/\W (i+1) m' ys H2):=by
 refine⟨fun i m ys H=>m=kvs.length-i/\i<=kvs.length/\Pv i ys H,⟨kvs.length,by simp,ztz _,h0⟩,?_⟩
 rintro i m ys H ⟨rfl,hi,p⟩
 obtain⟨q,hy⟩:=hl i ys H hi p
 by_cases hlt:i<kvs.length
 ·refine .inr ⟨⟨q,hlt⟩,by omega,fun x H' y=>?_⟩
  obtain⟨e,pp,e2,rfl⟩:=y
  subst e
  dsimp only[Sv]
  rw[if_pos rfl]
  exact hs i pp ys _ _ e2 p fun v H3 h3=>⟨_,by omega,rfl,hlt,h3⟩
 ·have e:i=kvs.length:=by omega
  subst e
  exact .inl ⟨⟨q,zts _⟩,fun pp hp=>hd ys H pp p hp⟩
end L2
namespace xV
open PySem L2 yN
def M4 (fs:List (Nat->Bool))(b:Nat):Nat:=(fs.filter fun f=>f b).length
theorem zcC (fs:List (Nat->Bool))(f:Nat->Bool)(b:Nat):M4 (fs++[f]) b=M4 fs b+(f b).toNat:=by
 unfold M4
 rw[ztQ,ztk]
 cases h:f b<;>simp[h]
inductive zap (K:Frag)(vs:List V)(H:Hp)(Q:VK)(E9:XK):Prop
 | mk (l:Addr) (n:Nat) (Ns:List Nat) (fs:List (Nat->Bool)) (_:vs=[.ref l]) (_:zP K H l (Ns.map fun N=>V.int (N:Nat))) (_:Paired (z9 n) Ns fs) (_:∀(R:Nat),z9 n R (fun b=>decide (M4 fs b=1))->Q (.int (R:Nat)) H):zap K vs H Q E9
def sgn (q:Cb):Nat:=(q.filter Option.isSome).length
theorem zdC:∀{q:Cb} {i:Nat} {v:Bool},q[i]?=some (some v)->sgn (q.set i none)+1=sgn q
 | [],i,v,h=>by cases h
 | s::q,0,v,h=>by
  cases h
  rfl
 | s::q,i+1,v,h=>by
  have ih:=zdC (q:=q) (i:=i) (v:=v) h
  show sgn (s::q.set i none)+1=sgn (s::q)
  unfold sgn at ih ⊢
  rw[List.filter_cons,List.filter_cons]
  cases s with
  | none=>exact ih
  | some u=>show _+1+1=_+1;rw[ih]
theorem zjF {q:Cb}{i b:Nat}(h:xJ q b=true):xJ (q.set i none) b=true:=by
 rw[Vd] at h ⊢
 intro j v e
 rw[List.getElem?_set] at e
 split at e
 ·split at e<;>cases e
 ·exact h j v e
theorem zjG {n:Nat}{f:Nat->Bool}{b:Nat}:∀(m:Nat) (q:Cb),sgn q<=m->q.length=n->inB n f q=true->xJ q b=true->∃r,r.length=n/\yE n f r=true/\xJ r b=true:=by
 intro m
 induction m with
 | zero =>
  intro q hs hl hi hb
  refine⟨q,hl,(yP (p:=0)).mpr ⟨hi,fun i v e=>?_⟩,hb⟩
  have:=zdC e
  omega
 | succ m ih =>
  intro q hs hl hi hb
  by_cases h:∀i v,q[i]?=some (some v)->inB n f (q.set i none)=false
  ·exact⟨q,hl,(yP (p:=0)).mpr ⟨hi,h⟩,hb⟩
  ·obtain⟨i,h⟩:=Classical.not_forall.mp h
   obtain⟨v,h⟩:=Classical.not_forall.mp h
   obtain⟨e,h⟩:=Classical.not_imp.mp h
   have:=zdC e
   exact ih (q.set i none) (by omega) (by rw[List.length_set];exact hl) (by simpa using h) (zjF hb)
def zh5 (n b:Nat):Cb:=(List.range n).map fun i=>some (b.testBit i)
theorem zk7 {n b i:Nat}{v:Bool}(h:(zh5 n b)[i]?=some (some v)):i<n/\v=b.testBit i:=by
 unfold zh5 at h
 rw[zte] at h
 rcases Nat.lt_or_ge i n with z | z
 ·rw[List.getElem?_range z] at h
  cases h
  exact⟨z,rfl⟩
 ·rw[ztM (by rw[ztu];exact z)] at h
  cases h
theorem zh6 {n:Nat}{f:Nat->Bool}{b:Nat}(hb:b<2^n)(h:f b=true):∃r,r.length=n/\yE n f r=true/\xJ r b=true:=by
 refine zjG (sgn (zh5 n b)) (zh5 n b) (zts _) (by unfold zh5;rw[ztc,ztu]) ?_ ?_
 ·rw[Zi]
  intro c hc e
  rw[Vd] at e
  have:c=b:=ZW hc hb fun i hi=>e i (b.testBit i) (by unfold zh5;rw[zte,List.getElem?_range hi];rfl)
  rw[this];exact h
 ·rw[Vd]
  intro i v e
  exact(zk7 e).2.symm
theorem QZ.cov {n:Nat}{f:Nat->Bool}{qs:List Cb}(h:QZ n 0 f qs){b:Nat}(hb:b<2^n):(∃c∈qs,xJ c b=true)↔f b=true:=by
 constructor
 ·rintro⟨c,hc,e⟩
  obtain⟨_,p⟩:=(h.mem c).mp hc
  exact Zi.mp (yP.mp p).1 b hb e
 ·intro e
  obtain⟨r,l,p,c⟩:=zh6 hb e
  exact⟨r,(h.mem r).mpr ⟨l,p⟩,c⟩
def Own (ks:List Cb)(c:Cb)(b:Nat):Prop:=xJ c b=true/\∀d∈ks,d≠c->xJ d b=false
theorem own_one:∀{ks:List Cb} {c:Cb} {b:Nat},ks.Nodup->c∈ks->xJ c b=true->(M4 (ks.map xJ) b=1↔Own ks c b):=by
 intro ks c b nd hc hb
 have e:M4 (ks.map xJ) b=(ks.filter fun d=>xJ d b).length:=by
  unfold M4
  rw[List.filter_map,ztc]
  rfl
 rw[e]
 have mc:c∈ks.filter fun d=>xJ d b:=List.mem_filter.mpr ⟨hc,hb⟩
 constructor
 ·intro h
  obtain⟨x,hx⟩:=List.length_eq_one_iff.mp h
  refine⟨hb,fun d hd ne=>?_⟩
  cases e2:xJ d b with
  | false=>rfl
  | true =>
   exfalso
   have md:d∈ks.filter fun d=>xJ d b:=List.mem_filter.mpr ⟨hd,e2⟩
   rw[hx,List.mem_singleton] at md mc
   exact ne (md.trans mc.symm)
 ·rintro⟨_,h⟩
  have nl:(ks.filter fun d=>xJ d b).Nodup:=nd.filter _
  have al:∀d∈ks.filter (fun d=>xJ d b),d=c:=fun d hd=>by
   obtain⟨h1,h2⟩:=List.mem_filter.mp hd
   by_cases z:d=c
   ·exact z
   ·rw[h d h1 z] at h2;cases h2
  generalize ks.filter (fun d=>xJ d b)=L at mc nl al
  match L,mc,nl,al with
  | [x],_,_,_=>rfl
  | x::y::L,_,nl,al =>
   exfalso
   have e1:=al x ztw
   have e2:=al y (ztn _ ztw)
   exact(List.nodup_cons.mp nl).1 (by rw[e1,<-e2];exact ztw)
theorem zdD (n:Nat)(f:Nat->Bool):∃N,z9 n N f:=by
 have:∀m,∃N:Nat,∀b,N.testBit b=(decide (b<m)&&f b):=by
  intro m
  induction m with
  | zero=>exact⟨0,fun b=>by simp⟩
  | succ m ih =>
   obtain⟨N,h⟩:=ih
   refine⟨N|||(if f m then 2^m else 0),fun b=>?_⟩
   rw[Nat.testBit_or,h b]
   by_cases e:b=m
   ·subst e
    cases hf:f b with
    | false=>simp
    | true=>simp[Nat.testBit_two_pow_self]
   ·have e1:decide (b<m+1)=decide (b<m):=decide_eq_decide.mpr (by omega)
    rw[e1]
    have e2:(if f m=true then 2^m else 0).testBit b=false:=by
     split
     ·rw[Nat.testBit_two_pow];exact decide_eq_false (Ne.symm e)
     ·exact Nat.zero_testBit _
    rw[e2,Bool.or_false]
 exact this (2^n)
structure Cov (n:Nat)(f:Nat->Bool)(ks:List Cb)(rows:List (List Bool)):Prop where
 mem:∀c∈ks,c.length=n/\yE n f c=true
 up:ks.Pairwise ltC
 cov:∀b,b<2^n->((∃c∈ks,xJ c b=true)↔f b=true)
 len:rows.length=ks.length
 own:∀(i:Nat) c r,ks[i]?=some c->rows[i]?=some r->r.length=n/\Own ks c (zx r)
structure Whi (n:Nat)(f:Nat->Bool)(qs:List Cb)(i:Nat)(ks:List Cb):Prop where
 dn:∃dn,ks=dn++qs.drop i/\dn.Sublist (qs.take i)/\∀c∈dn,∃b,b<2^n/\Own ks c b
 cov:∀b,b<2^n->((∃c∈ks,xJ c b=true)↔f b=true)
theorem Whi.start {n:Nat}{f:Nat->Bool}{qs:List Cb}(P:QZ n 0 f qs):Whi n f qs 0 qs :=
 ⟨⟨[],rfl,List.Sublist.refl _,fun c h=>by cases h⟩,fun b hb=>P.cov hb⟩
theorem Own.less {ks ls:List Cb}{c:Cb}{b:Nat}(h:Own ks c b)(s:∀d∈ls,d∈ks):Own ls c b:=⟨h.1,fun d hd=>h.2 d (s d hd)⟩
theorem Whi.sub {n:Nat}{f:Nat->Bool}{qs ks:List Cb}{i:Nat}(h:Whi n f qs i ks):ks.Sublist qs:=by
 obtain⟨dn,e,s,_⟩:=h.dn
 rw[e]
 have:=s.append (List.Sublist.refl (qs.drop i))
 rwa [List.take_append_drop] at this
theorem Whi.nd {n:Nat}{f:Nat->Bool}{qs ks:List Cb}{i:Nat}(h:Whi n f qs i ks)(P:QZ n 0 f qs):ks.Nodup:=h.sub.nodup P.nd
theorem Whi.has {n:Nat}{f:Nat->Bool}{qs ks:List Cb}{i:Nat}{c:Cb}(h:Whi n f qs i ks)(e:qs[i]?=some c):c∈ks:=by
 obtain⟨dn,rfl,_⟩:=h.dn
 obtain⟨hi,rfl⟩:=ztf.mp e
 rw[List.drop_eq_getElem_cons hi]
 exact ztt _ ztw
theorem Whi.stay {n:Nat}{f:Nat->Bool}{qs ks:List Cb}{i:Nat}{c:Cb}(h:Whi n f qs i ks)(e:qs[i]?=some c)(o:∃b,b<2^n/\Own ks c b):Whi n f qs (i+1) ks:=by
 obtain⟨dn,e1,s,hd⟩:=h.dn
 obtain⟨hi,rfl⟩:=ztf.mp e
 refine⟨⟨dn++[qs[i]],?_,?_,fun d hd'=>?_⟩,h.cov⟩
 ·rw[e1,List.drop_eq_getElem_cons hi,List.append_assoc]
  rfl
 ·rw[yj e]
  exact s.append (List.Sublist.refl _)
 ·rcases List.mem_append.mp hd' with z | z
  ·exact hd d z
  ·rw[List.mem_singleton.mp z];exact o
theorem Whi.gone {n:Nat}{f:Nat->Bool}{qs ks:List Cb}{i:Nat}{c:Cb}(P:QZ n 0 f qs)(h:Whi n f qs i ks)(e:qs[i]?=some c)(o:∀b,b<2^n->¬Own ks c b):Whi n f qs (i+1) (ks.filter fun d=>decide (d≠c)):=by
 have nd:=h.nd P
 have hc:=h.has e
 obtain⟨dn,e1,s,hd⟩:=h.dn
 obtain⟨hi,rfl⟩:=ztf.mp e
 have e2:ks=dn++qs[i]::qs.drop (i+1):=by rw[e1,List.drop_eq_getElem_cons hi]
 have n1:∀d∈dn,d≠qs[i]:=fun d hd' z=>by
  rw[e2] at nd
  exact(List.nodup_append.mp nd).2.2 d hd' _ ztw z
 have n2:∀d∈qs.drop (i+1),d≠qs[i]:=fun d hd' z=>by
  rw[e2] at nd
  have:=(List.nodup_cons.mp (List.nodup_append.mp nd).2.1).1
  rw[z] at hd'
  exact this hd'
 have ef:ks.filter (fun d=>decide (d≠qs[i]))=dn++qs.drop (i+1):=by
  rw[e2,ztQ,List.filter_cons_of_neg (by simp),List.filter_eq_self.mpr fun d hd'=>decide_eq_true (n1 d hd'),List.filter_eq_self.mpr fun d hd'=>decide_eq_true (n2 d hd')]
 have sub:∀d∈ks.filter (fun d=>decide (d≠qs[i])),d∈ks:=fun d hd'=>(List.mem_filter.mp hd').1
 refine⟨⟨dn,ef,?_,fun d hd'=>?_⟩,fun b hb=>?_⟩
 ·rw[yj e]
  exact List.Sublist.trans s (List.sublist_append_left _ _)
 ·obtain⟨b,h1,h2⟩:=hd d hd'
  exact⟨b,h1,h2.less sub⟩
 ·rw[<-h.cov b hb]
  constructor
  ·rintro⟨d,h1,h2⟩
   exact⟨d,sub d h1,h2⟩
  ·rintro⟨d,h1,h2⟩
   by_cases z:d=qs[i]
   ·subst z
    have y:=o b hb
    have:∃d,¬(d∈ks->d≠qs[i]->xJ d b=false):=Classical.not_forall.mp fun w=>y ⟨h2,w⟩
    obtain⟨d,hd'⟩:=this
    obtain⟨m1,hd'⟩:=Classical.not_imp.mp hd'
    obtain⟨m2,hd'⟩:=Classical.not_imp.mp hd'
    exact⟨d,List.mem_filter.mpr ⟨m1,decide_eq_true m2⟩,by simpa using hd'⟩
   ·exact⟨d,List.mem_filter.mpr ⟨h1,decide_eq_true z⟩,h2⟩
theorem Whi.done {n:Nat}{f:Nat->Bool}{qs ks:List Cb}(h:Whi n f qs qs.length ks):∀c∈ks,∃b,b<2^n/\Own ks c b:=by
 obtain⟨dn,e,_,hd⟩:=h.dn
 rw[List.drop_length,List.append_nil] at e
 subst e
 exact hd
def kvT (T:Cb->Nat)(c:Cb):Key×V:=(.inr (cbS c),.int (T c:Nat))
theorem zdE {T:Cb->Nat}:∀{ks:List Cb} {c:Cb},c∈ks->ZD (ks.map (kvT T)) (.inr (cbS c))=some (.int (T c:Nat))
 | d::ks,c,h=>by
  rw[ztB]
  by_cases z:d=c
  ·subst z
   exact vX rfl
  ·rw[vh (fun e=>z (zal (Sum.inr.inj e)))]
   exact zdE ((List.mem_cons.mp h).resolve_left (Ne.symm z))
theorem zeR {T:Cb->Nat}:∀{ks:List Cb} {c:Cb},c∉ks->ZD (ks.map (kvT T)) (.inr (cbS c))=none
 | [],c,_=>rfl
 | d::ks,c,h=>by
  rw[ztB,vh (fun e=>h (by rw[zal (Sum.inr.inj e)];exact ztw))]
  exact zeR fun z=>h (ztn _ z)
theorem zjH {T:Cb->Nat}{ks:List Cb}{c:Cb}:Jl (ks.map (kvT T)) (.inr (cbS c))=(ks.filter fun d=>decide (d≠c)).map (kvT T):=by
 unfold Jl
 rw[List.filter_map]
 congr 1
 refine List.filter_congr fun d _=>?_
 show decide ((kvT T d).1≠Sum.inr (cbS c))=_
 refine decide_eq_decide.mpr ⟨fun h e=>h (by rw[e];rfl),fun h e=>h (zal (Sum.inr.inj e))⟩
inductive zdF (C:Addr)(vs:List V)(H:Hp)(Q:VK)(E9:XK):Prop
 | mk (b:Addr) (os:List Str) (rs:List Rm) (F:uZ) (k:Nat) (_:vs=[.ref b,.int (k:Nat)]) (_:yV C H b os rs F) (_:k<rs.length) (_:∀(t cl rl:Addr) (ks:List Cb) (ps:List Addr) (rows:List (List Bool)) (H':Hp),Same H H'->H t=none->H cl=none->H rl=none->cl≠rl->H' t=some (.tup [.ref cl,.ref rl])->H' cl=some (.lst (ks.map cbV))->H' rl=some (.lst (ps.map V.ref))->Paired (fun p r=>H p=none/\p≠cl/\p≠rl/\H' p=some (.lst (zZ r))) ps rows->ps.Nodup->Cov os.length (tB rs k) ks rows->ks.length<=2187->Q (.ref t) H'):zdF C vs H Q E9
def M5 (n:Nat)(f:Nat->Bool)(qs:List Cb):Bool:=(List.range (2^n)).all fun b=>(qs.any fun c=>xJ c b)==f b
theorem zeS {n:Nat}{f:Nat->Bool}{qs:List Cb}:M5 n f qs=true↔∀b,b<2^n->(qs.any fun c=>xJ c b)=f b:=by
 unfold M5
 rw[ztG]
 exact⟨fun h b hb=>by simpa using h b (List.mem_range.mpr hb),fun h b hb=>by rw[h b (List.mem_range.mp hb)];simp⟩
inductive QF (C:Addr)(K:Frag)(vs:List V)(H:Hp)(Q:VK)(E9:XK):Prop
 | mk (b l:Addr) (os:List Str) (rs:List Rm) (F:uZ) (k:Nat) (qs:List Cb) (_:vs=[.ref b,.int (k:Nat),.ref l]) (_:yV C H b os rs F) (_:k<rs.length) (_:zP K H l (qs.map cbV)) (_:∀q∈qs,q.length=os.length) (_:∀H',Same H H'->Q (.bl (M5 os.length (tB rs k) qs)) H'):QF C K vs H Q E9
end xV
namespace L2
open PySem PySem.Spec PyProof.Rows
theorem zk8 {K:Frag}{a b:Addr}{xs ys:List V}{σ:St}{js:List Nat}{te:TE}{H:Hp}{Qf:Addr->Hp->List V->Prop}{x y:Str}(f:Nat->V)(hq1:zP K H a xs)(hq2:zP K H b ys)(hl:xs.length=ys.length)(hz:xs.length<=sizeLine)
  (hs:∀(i:Nat) u v H' (Q:V->Hp->Prop),xs[i]?=some u->ys[i]?=some v->Same H H'->(∀H3,Same H' H3->Q (f i) H3)->te (LC σ js [some u,some v]) H' Q)
  (hd:∀H' p,Same H H'->H' p=none->Qf p H' ((List.range xs.length).map f)) :
  ∃W:Nat->Nat->List V->Hp->Prop,(∃m,W 0 m [] H)/\∀i m zs H,W i m zs H ->
   ((Itz K a b).stop i H/\∀p,H p=none->Qf p H zs) \/
   ((Itz K a b).go i H/\zs.length<sizeLine/\∀v H',(Itz K a b).Qe i H v H'->∀o0:List (Option V),o0.length=[x,y].length->zfB K 2 (V0 (uF 0) (V0 (uF 1) zfA)) v (LC σ js o0) H' fun σ2 H1=>∃o1,σ2=LC σ js o1/\o1.length=[x,y].length/\Sv σ2 H1 fun b H2 =>
    if b=true then te σ2 H2 fun v H3=>∃m',m'<m/\W (i+1) m' (zs++[v]) H3 else ∃m',m'<m/\W (i+1) m' zs H2):=by
 refine⟨fun i m zs H'=>m=xs.length-i/\i<=xs.length/\Same H H'/\zs=(List.range i).map f,⟨_,rfl,ztz _,Same.refl _,rfl⟩,?_⟩
 rintro i m zs H1 ⟨rfl,hi,g,rfl⟩
 by_cases hlt:i<xs.length
 ·have ex:=ztd hlt
  have ey:=ztd (l:=ys) (i:=i) (by omega)
  refine .inr ⟨⟨xs,ys,_,_,g.seq hq1,g.seq hq2,ex,ey⟩,by rw[ztc,ztu];omega,fun w H' y o0 l0=>?_⟩
  obtain⟨q,u,v,hu,hv,rfl,hn,rfl⟩:=y
  have eu:=hu xs (g.seq hq1)
  have ev:=hv ys (g.seq hq2)
  have eσ:((LC σ js o0).set 0 (some u)).set 1 (some v)=LC σ js [some u,some v]:=by
   match o0,l0 with
   | [a0,a1],_=>rfl
  refine⟨q,[u,v],rfl,wY.of zf,rfl,u,[v],rfl,v,[],rfl,rfl,[some u,some v],eσ,rfl,?_⟩
  show te (((LC σ js o0).set 0 (some u)).set 1 (some v)) _ _
  rw[eσ]
  refine hs i u v _ _ eu ev (g.trans (Same.new hn _)) fun H3 g3=>⟨_,by omega,rfl,hlt,(g.trans (Same.new hn _)).trans g3,?_⟩
  rw[List.range_succ,ztq]
  rfl
 ·have e:i=xs.length:=by omega
  subst e
  exact .inl ⟨⟨xs,ys,g.seq hq1,g.seq hq2,.inl (zts _)⟩,fun p hp=>hd H1 p g hp⟩
end L2
namespace xV
open PySem L2 yN
def Z0 (ns:List Int):List Bool:=ns.map fun x=>decide (x=1)
theorem zcD {n:Nat}{ns:List Int}(h:V6 n ns=true):ns.map V.int=zZ (Z0 ns)/\(Z0 ns).length=n:=by
 unfold V6 at h
 rw[ztE,ztG] at h
 obtain⟨h1,h2⟩:=h
 refine⟨?_,by unfold Z0;rw[ztc];exact of_decide_eq_true h1⟩
 unfold zZ Z0
 rw[ztO]
 refine List.map_congr_left fun x hx=>?_
 have y:=h2 x hx
 have y:x=0\/x=1:=by simpa using y
 rcases y with rfl | rfl<;>rfl
def shw (n:Nat)(ks:List Cb)(c:Cb)(ns:List Int):Bool:=V6 n ns&&(xJ c (zx (Z0 ns))&&decide (M4 (ks.map xJ) (zx (Z0 ns))=1))
def Rq (n:Nat)(f:Nat->Bool)(ks:List Cb)(rows:List (List Int)):Bool:=M5 n f ks&&(decide (rows.length=ks.length)&&(ks.all (yE n f)&&(List.range ks.length).all fun i=>shw n ks (ks.getD i []) (rows.getD i [])))
def zjI (H:Hp)(l:Addr)(rows:List (List Int)):Prop:=∃ps:List Addr,H l=some (.lst (ps.map V.ref))/\Paired (fun p ns=>H p=some (.lst (ns.map V.int))) ps rows
inductive zdG (C:Addr)(vs:List V)(H:Hp)(Q:VK)(E9:XK):Prop
 | mk (b l e:Addr) (os:List Str) (rs:List Rm) (F:uZ) (k:Nat) (ks:List Cb) (rows:List (List Int)) (_:vs=[.ref b,.int (k:Nat),.ref l,.ref e]) (_:yV C H b os rs F) (_:k<rs.length) (_:H l=some (.lst (ks.map cbV))) (_:∀q∈ks,q.length=os.length) (_:ks.length<=3000) (_:zjI H e rows) (_:rows.length<=3000) (_:∀ns∈rows,ns.length<=1000) (_:∀H',Same H H'->Q (.bl (Rq os.length (tB rs k) ks rows)) H'):zdG C vs H Q E9
def zdH (r:List Bool):List Int:=r.map fun b=>((b.toNat:Nat):Int)
theorem zjJ (r:List Bool):(zdH r).map V.int=zZ r:=by unfold zdH zZ;rw[ztO];rfl
theorem zk9 {q:Cb}{r:List Bool}(h:q.length=r.length):xJ q (zx r)=(List.range r.length).all fun i=>mtS (q.getD i none) (r.getD i false):=by
 unfold xJ
 rw[h]
 congr 1
 funext i
 rw[wg,ztp,ztp]
 unfold mtS
 cases (q[i]?).getD none<;>rfl
theorem zh7 {n:Nat}{f:Nat->Bool}{ks:List Cb}:M5 n f ks=(allR n).all fun r=>(ks.any fun c=>xJ c (zx r))==f (zx r):=by
 rw[ztS,zeS,ztG]
 constructor
 ·intro h r hr
  have l:=vY _ r hr
  have lt:=Yt r
  rw[l] at lt
  rw[h _ lt]
  exact beq_self_eq_true _
 ·intro h b hb
  obtain⟨r,hr,e⟩:=zeQ.zjy hb
  have z:=h r (by have:=za0 r;rwa [hr] at this)
  rw[e] at z
  exact eq_of_beq z
theorem zjK {ks:List Cb}{b k:Nat}(hk:k<ks.length):decide (((List.range ks.length).filter fun j=>xJ (ks.getD j []) b)=[k])=(xJ (ks.getD k []) b&&decide (M4 (ks.map xJ) b=1)):=by
 have em:(List.range ks.length).map (fun j=>ks.getD j [])=ks:=by
  refine List.ext_getElem? fun i=>?_
  rw[zte]
  rcases Nat.lt_or_ge i ks.length with h | h
  ·rw[List.getElem?_range h,ztd h]
   show some (ks.getD i [])=_
   rw[ztp,ztd h]
   rfl
  ·rw[ztM (by rw[ztu];exact h),ztM h]
   rfl
 have el:((List.range ks.length).filter fun j=>xJ (ks.getD j []) b).length=M4 (ks.map xJ) b:=by
  unfold M4
  have a1:(ks.map xJ).filter (fun f=>f b)=(ks.filter fun c=>xJ c b).map xJ:=by rw[List.filter_map];rfl
  have a2:(ks.filter fun c=>xJ c b)=((List.range ks.length).filter fun j=>xJ (ks.getD j []) b).map fun j=>ks.getD j []:=by
   conv=>lhs;rw[<-em]
   rw[List.filter_map]
   rfl
  rw[a1,ztc,a2,ztc]
 rw[ztS,ztE,decide_eq_true_iff,decide_eq_true_iff,<-el]
 constructor
 ·intro h
  refine⟨?_,by rw[h];rfl⟩
  have z:k∈[k]:=List.mem_singleton.mpr rfl
  rw[<-h] at z
  exact(List.mem_filter.mp z).2
 ·rintro⟨h1,h2⟩
  have z:k∈(List.range ks.length).filter fun j=>xJ (ks.getD j []) b:=List.mem_filter.mpr ⟨List.mem_range.mpr hk,h1⟩
  obtain⟨x,hx⟩:=List.length_eq_one_iff.mp h2
  rw[hx] at z ⊢
  rw[List.mem_singleton.mp z]
theorem zgk {n:Nat}{f:Nat->Bool}{ks:List Cb}{rows:List (List Int)}(hc:M5 n f ks=true)(hl:rows.length=ks.length):Rq n f ks rows=(List.range ks.length).all fun i=>xV.V6 n (rows.getD i [])&&(yE n f (ks.getD i [])&&decide (((List.range ks.length).filter fun j=>xJ (ks.getD j []) (zx (Z0 (rows.getD i []))))=[i])):=by
 unfold Rq shw
 rw[hc,decide_eq_true hl,Bool.true_and,Bool.true_and,ztS,ztE,ztG,ztG,ztG]
 constructor
 ·rintro⟨h1,h2⟩ i hi
  have z:=h2 i hi
  have hi:=List.mem_range.mp hi
  rw[zjK hi]
  rw[ztE] at z
  rw[ztE,ztE]
  refine⟨z.1,h1 _ ?_,z.2⟩
  rw[ztp,ztd hi]
  exact ztT hi
 ·intro h
  refine⟨fun c hc=>?_,fun i hi=>?_⟩
  ·obtain⟨i,hi,e⟩:=ztU hc
   have z:=h i (List.mem_range.mpr hi)
   rw[ztE,ztE] at z
   have z:=z.2.1
   rw[ztp,ztd hi] at z
   rw[<-e]
   exact z
  ·have z:=h i hi
   rw[zjK (List.mem_range.mp hi),ztE,ztE] at z
   rw[ztE]
   exact⟨z.1,z.2.2⟩
inductive Nk (vs:List V)(H:Hp)(Q:VK)(E9:XK):Prop
 | mk (q:Cb) (p:Addr) (r:List Bool) (_:vs=[.str (cbS q),.ref p]) (_:H p=some (.lst (zZ r))) (_:q.length=r.length) (_:r.length<=8) (_:∀H',Same H H'->Q (.bl (xJ q (zx r))) H'):Nk vs H Q E9
inductive QG (vs:List V)(H:Hp)(Q:VK)(E9:XK):Prop
 | mk (l yl:Addr) (n:Nat) (f:Nat->Bool) (ks:List Cb) (_:vs=[.ref l,.ref yl,.int (n:Nat)]) (_:H l=some (.lst (ks.map cbV))) (_:∀q∈ks,q.length=n) (_:n<=8) (_:ks.length<=3000) (_:zdx H yl n f) (_:∀H',Same H H'->Q (.bl (M5 n f ks)) H'):QG vs H Q E9
inductive za9 (vs:List V)(H:Hp)(Q:VK)(E9:XK):Prop
 | mk (l e yl:Addr) (n:Nat) (f:Nat->Bool) (ks:List Cb) (rows:List (List Int)) (_:vs=[.ref l,.ref e,.ref yl,.int (n:Nat)]) (_:H l=some (.lst (ks.map cbV))) (_:∀q∈ks,q.length=n) (_:n<=8) (_:ks.length<=3000) (_:zdx H yl n f) (_:zjI H e rows) (_:rows.length<=3000) (_:∀ns∈rows,ns.length<=1000) (_:∀H',Same H H'->Q (.bl (Rq n f ks rows)) H'):za9 vs H Q E9
section
variable {α β:Type}{R S:α->β->Prop}
theorem zeT:∀{xs:List α} {ys:List β} (i:Nat),Paired R xs ys->Paired R (xs.eraseIdx i) (ys.eraseIdx i)
 | [],[],_,.nil=>.nil
 | x::xs,y::ys,0,.cons _ t=>t
 | x::xs,y::ys,i+1,.cons h t=>.cons h (zeT i t)
theorem zhs:∀{xs:List α} {ys:List β} (i:Nat),Paired R xs ys->Paired R (xs.take i) (ys.take i)
 | [],[],_,.nil=>by simp only[List.take_nil];exact .nil
 | x::xs,y::ys,0,.cons _ t=>.nil
 | x::xs,y::ys,i+1,.cons h t=>.cons h (zhs i t)
theorem zht:∀{xs:List α} {ys:List β} (i:Nat),Paired R xs ys->Paired R (xs.drop i) (ys.drop i)
 | [],[],_,.nil=>by simp only[List.drop_nil];exact .nil
 | x::xs,y::ys,0,.cons h t=>.cons h t
 | x::xs,y::ys,i+1,.cons h t=>zht i t
theorem zgl:∀{xs:List α} {ys:List β} {i:Nat} {p:α} {z:β},Paired R xs ys->xs.Nodup->xs[i]?=some p->(∀x y,x≠p->R x y->S x y)->S p z->Paired S xs (ys.set i z)
 | [],[],_,_,_,.nil,_,h,_,_=>by cases h
 | x::xs,y::ys,0,p,z,.cons h t,nd,hp,f,g=>by
  obtain rfl:x=p:=by simpa using hp
  refine .cons g (zjL t fun x' hx y r=>f x' y (fun e=>?_) r)
  rw[e] at hx
  exact(List.nodup_cons.mp nd).1 hx
 | x::xs,y::ys,i+1,p,z,.cons h t,nd,hp,f,g=>by
  have hp':xs[i]?=some p:=by simpa using hp
  have nd':=List.nodup_cons.mp nd
  refine .cons (f x y (fun e=>nd'.1 (by rw[e];exact zth hp')) h) (zgl t nd'.2 hp' f g)
where
 zjL:∀{xs:List α} {ys:List β},Paired R xs ys->(∀x,x∈xs->∀y,R x y->S x y)->Paired S xs ys
 | [],[],.nil,_=>.nil
 | x::xs,y::ys,.cons h t,f=>.cons (f x ztw y h) (zjL t fun x hx=>f x (ztn _ hx))
end
inductive zdI (vs:List V)(H:Hp)(Q:VK)(E9:XK):Prop
 | mk (l:Addr) (cell:Int) (n:Nat) (ks:List Cb) (_:vs=[.ref l,.int cell,.int (n:Nat)]) (_:H l=some (.lst (ks.map cbV))) (_:∀q∈ks,q.length=n) (_:1<=n) (_:n<=8) (_:ks.length<=2900) (_:∀(ks':List Cb) (H':Hp),(∀x o,H x=some o->x≠l->H' x=some o)->H' l=some (.lst (ks'.map cbV))->(∀q∈ks',q.length=n)->ks'.length<=ks.length+1->Q .non H'):zdI vs H Q E9
inductive zdJ (vs:List V)(H:Hp)(Q:VK)(E9:XK):Prop
 | mk (l:Addr) (cell:Int) (n:Nat) (ps:List Addr) (rows:List (List Int)) (H0:Hp) (m:Nat) (_:vs=[.ref l,.int cell,.int (n:Nat)]) (_:n<=m) (_:m<=15) (_:Same H0 H) (_:H0 l=none) (_:H l=some (.lst (ps.map V.ref))) (_:Paired (fun p ns=>H0 p=none/\p≠l/\H p=some (.lst (ns.map V.int))) ps rows) (_:ps.Nodup) (_:n<=8) (_:rows.length<=2900) (_:∀r∈rows,r.length<=m/\∀i∈r,-2<=i/\i<=2) (_:∀(ps':List Addr) (rows':List (List Int)) (H':Hp),Same H0 H'->(∀x o,H x=some o->x≠l->x∉ps->H' x=some o)->H' l=some (.lst (ps'.map V.ref))->Paired (fun p ns=>H0 p=none/\p≠l/\H' p=some (.lst (ns.map V.int))) ps' rows'->ps'.Nodup->rows'.length<=rows.length+1->(∀r∈rows',r.length<=m+1/\∀i∈r,-2<=i/\i<=2)->Q .non H'):zdJ vs H Q E9
inductive KN (vs:List V)(H:Hp)(Q:VK)(E9:XK):Prop
 | mk (cl rl:Addr) (cell:Int) (n:Nat) (ks:List Cb) (ps:List Addr) (rows:List (List Bool)) (H0:Hp) (_:vs=[.ref cl,.ref rl,.int cell]) (_:Same H0 H) (_:H0 cl=none) (_:H cl=some (.lst (ks.map cbV))) (_:∀q∈ks,q.length=n) (_:1<=n) (_:n<=8) (_:0<ks.length) (_:ks.length<=2900) (_:H rl=some (.lst (ps.map V.ref))) (_:cl≠rl) (_:Paired (fun p r=>H0 p=none/\p≠cl/\p≠rl/\H p=some (.lst (zZ r))) ps rows) (_:ps.Nodup) (_:rows.length=ks.length) (_:∀r∈rows,r.length=n) (_:∀(ks':List Cb) (rows':List (List Bool)) (H':Hp),Same H0 H'->H' cl=some (.lst (ks'.map cbV))->(∀q∈ks',q.length=n)->ks'.length=ks.length->H' rl=some (.lst (ps.map V.ref))->Paired (fun p r=>H0 p=none/\p≠cl/\p≠rl/\H' p=some (.lst (zZ r))) ps rows'->(∀r∈rows',r.length=n)->Q .non H'):KN vs H Q E9
end xV
namespace L2
open PySem PySem.Spec PyProof.Rows
def cbD (c:xV.Cb):PyData:=.str (xV.cbS c)
def rwD (ns:List Int):PyData:=.list (ns.map .int)
def zgm (ks:List xV.Cb)(rows:List (List Int)):PyData:=.tuple [.list (ks.map cbD),.list (rows.map rwD)]
def shC (ks:List xV.Cb)(rows:List (List Int)):Str:=(zgm ks rows).shown
def Sm (i:Int):Prop:=-2<=i/\i<=2
theorem zjM {i:Int}(h:Sm i):(PyData.int i).weight<=2/\(PyData.int i).showable=true/\(PyData.int i).leavesShort 13=true:=by
 obtain⟨h1,h2⟩:=h
 have:i=-2\/i=-1\/i=0\/i=1\/i=2:=by omega
 have l:(PyData.int i).weight<=2/\(PyData.int i).showable=true:=by rcases this with rfl | rfl | rfl | rfl | rfl<;>decide
 refine⟨l.1,l.2,?_⟩
 simp only[PyData.leavesShort]
 exact decide_eq_true (PyData.shown_int_le (by rcases this with rfl | rfl | rfl | rfl | rfl<;>decide))
theorem zba:∀(r:List Int),(∀i∈r,Sm i)->PyData.showableAll (r.map .int)=true/\PyData.hasDictAll (r.map .int)=false/\PyData.depthAll (r.map .int)<=1/\PyData.leavesShortAll 13 (r.map .int)=true/\PyData.weightAll (r.map .int)<=3*r.length
 | [],_=>⟨rfl,rfl,ztz _,rfl,ztz _⟩
 | b::r,h=>by
  obtain⟨a1,a2,a3,a4,a5⟩:=zba r fun x hx=>h x (ztn _ hx)
  obtain⟨w1,w2,w3⟩:=zjM (h b ztw)
  refine⟨?_,?_,?_,?_,?_⟩
  ·simp only[ztB,PyData.showableAll,a1,w2,Bool.and_true]
  ·simp only[ztB,PyData.hasDictAll,a2,PyData.hasDict,Bool.or_false]
  ·simp only[ztB,PyData.depthAll,PyData.depth]
   omega
  ·simp only[ztB,PyData.leavesShortAll,a4,w3,Bool.and_true]
  ·simp only[ztB,PyData.weightAll,zto]
   omega
theorem Jq:∀(rr:List (List Int)),(∀r∈rr,r.length<=20/\∀i∈r,Sm i)->PyData.showableAll (rr.map rwD)=true/\PyData.hasDictAll (rr.map rwD)=false/\PyData.depthAll (rr.map rwD)<=2/\PyData.leavesShortAll 13 (rr.map rwD)=true/\PyData.weightAll (rr.map rwD)<=61*rr.length
 | [],_=>⟨rfl,rfl,ztz _,rfl,ztz _⟩
 | r::rr,h=>by
  obtain⟨a1,a2,a3,a4,a5⟩:=Jq rr fun x hx=>h x (ztn _ hx)
  obtain⟨lr,sm⟩:=h r ztw
  obtain⟨b1,b2,b3,b4,b5⟩:=zba r sm
  refine⟨?_,?_,?_,?_,?_⟩
  ·simp only[ztB,PyData.showableAll,a1,Bool.and_true,rwD,PyData.showable,b1]
  ·simp only[ztB,PyData.hasDictAll,a2,rwD,PyData.hasDict,b2,Bool.or_false]
  ·simp only[ztB,PyData.depthAll,rwD,PyData.depth]
   omega
  ·simp only[ztB,PyData.leavesShortAll,a4,Bool.and_true,rwD,PyData.leavesShort,b4]
  ·simp only[ztB,PyData.weightAll,zto,rwD,PyData.weight]
   omega
theorem zjN (c:xV.Cb):(cbD c).leavesShort 13=true:=by
 simp only[cbD,PyData.leavesShort]
 rw[ztG]
 intro x hx
 rw[xV.Rn] at hx
 obtain⟨s,_,rfl⟩:=List.mem_map.mp hx
 refine decide_eq_true ?_
 have:xV.Ua s<128:=by
  cases s with
  | none=>decide
  | some v=>cases v<;>decide
 exact ztl this (by decide)
theorem Jr:∀(ks:List xV.Cb),(∀c∈ks,c.length<=8)->PyData.showableAll (ks.map cbD)=true/\PyData.hasDictAll (ks.map cbD)=false/\PyData.depthAll (ks.map cbD)<=1/\PyData.leavesShortAll 13 (ks.map cbD)=true/\PyData.weightAll (ks.map cbD)<=9*ks.length
 | [],_=>⟨rfl,rfl,ztz _,rfl,ztz _⟩
 | c::ks,h=>by
  obtain⟨a1,a2,a3,a4,a5⟩:=Jr ks fun x hx=>h x (ztn _ hx)
  have lc:=h c ztw
  have z:=xV.Wk c
  refine⟨?_,?_,?_,?_,?_⟩
  ·simp only[ztB,PyData.showableAll,a1,Bool.and_true,cbD,PyData.showable]
  ·simp only[ztB,PyData.hasDictAll,a2,cbD,PyData.hasDict,Bool.or_false]
  ·simp only[ztB,PyData.depthAll,cbD,PyData.depth]
   omega
  ·simp only[ztB,PyData.leavesShortAll,a4,Bool.and_true,zjN]
  ·simp only[ztB,PyData.weightAll,zto,cbD,PyData.weight,z]
   omega
theorem zbb {h:Heap}:∀{r:List Int} {us:List Value},Vals (r.map V.int) us->∃as,ReadsAll h us (r.map .int) as
 | [],_,.nil=>⟨_,.nil⟩
 | b::r,_,.cons e t=>by
  obtain⟨as,z⟩:=zbb t
  obtain⟨tk,rfl⟩:=e
  exact⟨_,.cons (.int _ _) z⟩
theorem Js {h:Heap}:∀{ks:List xV.Cb} {us:List Value},Vals (ks.map xV.cbV) us->∃as,ReadsAll h us (ks.map cbD) as
 | [],_,.nil=>⟨_,.nil⟩
 | b::r,_,.cons e t=>by
  obtain⟨as,z⟩:=Js t
  obtain⟨tk,rfl⟩:=e
  exact⟨_,.cons (.str _ _) z⟩
section
variable {X:Cx}
theorem M6 (hg:X.A.guards=some [])(hu:X.A.units+9<cLine):ZK X (.builtin "repr") (fun xs H Q=>∃(t cl rl:Addr) (ks:List xV.Cb) (ps:List Addr) (rows:List (List Int)),xs=[.ref t]/\H t=some (.tup [.ref cl,.ref rl])/\H cl=some (.lst (ks.map xV.cbV))/\H rl=some (.lst (ps.map V.ref))/\Paired (fun p ns=>H p=some (.lst (ns.map V.int))) ps rows/\ks.length<=3000/\(∀c∈ks,c.length<=8)/\rows.length<=3000/\(∀r∈rows,r.length<=20/\∀i∈r,Sm i)/\Q (.str (shC ks rows)) H):=by
 intro pins s σ H xs us Q I r h
 obtain⟨t,cl,rl,ks,ps,rows,rfl,ht,hcl,hrl,pr,lk,l8,lr,hr,q⟩:=h
 obtain⟨u,rfl,rx⟩:=vals1 r
 cases rx
 obtain⟨hz,its,rv,o,hl,hcls,n,hdat⟩:=(show xZ X.prog X.w H s.heap t (.tup [.ref cl,.ref rl]) from I.hok t _ ht)
 obtain⟨hz1,is1,c1,rv1,hl1⟩:=(show xZ X.prog X.w H s.heap cl (.lst (ks.map xV.cbV)) from I.hok cl _ hcl)
 obtain⟨hz2,is2,c2,rv2,hl2⟩:=(show xZ X.prog X.w H s.heap rl (.lst (ps.map V.ref)) from I.hok rl _ hrl)
 have all:∃as,ReadsAll s.heap is2 (rows.map rwD) as:=by
  clear hrl q hl2 hz2 c2 lr hr
  induction pr generalizing is2 with
  | nil=>cases rv2;exact⟨_,.nil⟩
  | @cons t r ps rr ht _ ih =>
   cases rv2 with
   | @cons _ u _ us ru rv' =>
    cases ru
    obtain⟨as,z⟩:=ih us rv'
    obtain⟨_,ks,c2,rk,hk⟩:=(show xZ X.prog X.w H s.heap t (.lst (r.map V.int)) from I.hok t _ ht)
    obtain⟨bs,y⟩:=zbb (h:=s.heap) rk
    exact⟨_,.cons (.list hk rfl rfl (by simpa using y)) z⟩
 obtain⟨as,z⟩:=all
 obtain⟨bs,y⟩:=Js (h:=s.heap) rv1
 obtain⟨f1,f2,f3,f4,f5⟩:=Jq rows hr
 obtain⟨e1,e2,e3,e4,e5⟩:=Jr ks l8
 have ri:its=[.ref cl,.ref rl]:=by
  cases rv with
  | cons r1 rv =>
   cases rv with
   | cons r2 rv =>
    cases rv
    cases r1
    cases r2
    rfl
 subst ri
 have rd:Reads s.heap (.ref t) (zgm ks rows) _:=.tuple hl hcls hdat (.cons (.list hl1 rfl rfl (by simpa using y)) (.cons (.list hl2 rfl rfl (by simpa using z)) .nil))
 refine repr_of_reads' rd ?_ (PyData.noDict_hsm ?_) hg ?_ (fun _ _ e=>e) (fun h' u tk k=>?_) (PyData.shown_fits (B:=13) (by decide) (by decide) ?_ ?_)
 ·simp only[zgm,PyData.showable,PyData.showableAll,e1,f1,Bool.and_true]
 ·simp only[zgm,PyData.hasDict,PyData.hasDictAll,e2,f2,Bool.or_false]
 ·simp only[zgm,PyData.depth,PyData.depthAll]
  omega
 ·exact⟨.str (shC ks rows),H,I.kept k,⟨u,rfl⟩,q⟩
 ·simp only[zgm,PyData.leavesShort,PyData.leavesShortAll,e4,f4,Bool.and_true]
 ·simp only[zgm,PyData.weight,PyData.weightAll]
  have:2^20=1048576:=rfl
  omega
end
end L2
namespace xV
open PySem L2 yN
structure Xo (B H:Hp)(cl rl:Addr)(n m:Nat)(ks:List Cb)(ps:List Addr)(rows:List (List Int)):Prop where
 same:Same B H
 ncl:B cl=none
 nrl:B rl=none
 ne:cl≠rl
 hcl:H cl=some (.lst (ks.map cbV))
 lk:∀q∈ks,q.length=n
 kl:ks.length<=2187+m
 hrl:H rl=some (.lst (ps.map V.ref))
 pp:Paired (fun p (ns:List Int)=>B p=none/\p≠cl/\p≠rl/\H p=some (.lst (ns.map V.int))) ps rows
 nd:ps.Nodup
 rlen:rows.length<=2187+m
 sm:∀r∈rows,r.length<=8+m/\∀i∈r,-2<=i/\i<=2
section
variable {B H H':Hp}{cl rl:Addr}{n m:Nat}{ks ks':List Cb}{ps ps':List Addr}{rows rows':List (List Int)}
theorem Xo.mem (S:Xo B H cl rl n m ks ps rows){p:Addr}(h:p∈ps):B p=none/\p≠cl/\p≠rl:=by
 obtain⟨i,hi,e⟩:=ztU h
 obtain⟨_,_,a,b,c,_⟩:=tO S.pp (show ps[i]?=some p by rw[ztd hi,e])
 exact⟨a,b,c⟩
theorem Xo.znY (S:Xo B H cl rl n m ks ps rows)(keep:∀x o,H x=some o->x≠cl->H' x=some o)(h:H' cl=some (.lst (ks'.map cbV)))(lk:∀q∈ks',q.length=n)(l:ks'.length<=ks.length+1):Xo B H' cl rl n (m+1) ks' ps rows :=
 ⟨fun x o e=>keep x o (S.same x o e) (fun z=>by rw[z,S.ncl] at e;cases e),S.ncl,S.nrl,S.ne,h,lk,by have:=S.kl;omega,keep _ _ S.hrl (Ne.symm S.ne),yO (fun _ _ z=>⟨z.1,z.2.1,z.2.2.1,keep _ _ z.2.2.2 z.2.1⟩) S.pp,S.nd,by have:=S.rlen;omega,fun r hr=>⟨by have:=(S.sm r hr).1;omega,(S.sm r hr).2⟩⟩
def zh8 (rl:Addr)(ps:List Addr):uZ:=fun x=>x=rl\/x∈ps
theorem Xo.base (S:Xo B H cl rl n m ks ps rows):Same B (za4 (zh8 rl ps) H):=fun x o e=>zcB (S.same x o e) fun z=>by
 rcases z with z | z
 ·rw[z,S.nrl] at e;cases e
 ·rw[(S.mem z).1] at e;cases e
theorem Xo.cubes (S:Xo B H cl rl n m ks ps rows):za4 (zh8 rl ps) H cl=some (.lst (ks.map cbV)):=zcB S.hcl fun z=>by
 rcases z with z | z
 ·exact S.ne z
 ·exact(S.mem z).2.1 rfl
theorem zeU {F:uZ}{x:Addr}(h:F x):za4 F H x=none:=by
 unfold za4
 exact if_pos h
theorem Xo.pre (S:Xo B H cl rl n m ks ps rows):Paired (fun p (ns:List Int)=>za4 (zh8 rl ps) H p=none/\p≠rl/\H p=some (.lst (ns.map V.int))) ps rows:=by
 refine zgb (yU S.pp) fun i p r hp hr=>?_
 obtain⟨r',hr',z⟩:=tO S.pp hp
 obtain rfl:r'=r:=by rw[hr] at hr';exact(ztH hr').symm
 exact⟨zeU (.inr (zth hp)),z.2.2.1,z.2.2.2⟩
theorem Xo.znZ (S:Xo B H cl rl n m ks ps rows)(g:Same (za4 (zh8 rl ps) H) H')(h:H' rl=some (.lst (ps'.map V.ref)))(pp:Paired (fun p (ns:List Int)=>za4 (zh8 rl ps) H p=none/\p≠rl/\H' p=some (.lst (ns.map V.int))) ps' rows')(nd:ps'.Nodup)(l:rows'.length<=rows.length+1)(sm:∀r∈rows',r.length<=8+m+1/\∀i∈r,-2<=i/\i<=2):Xo B H' cl rl n (m+1) ks ps' rows':=by
 refine⟨S.base.trans g,S.ncl,S.nrl,S.ne,g _ _ S.cubes,S.lk,by have:=S.kl;omega,h,yO (fun p r z=>⟨?_,?_,z.2.1,z.2.2⟩) pp,nd,by have:=S.rlen;omega,sm⟩
 ·cases e:B p with
  | none=>rfl
  | some o=>have:=S.base p o e;rw[z.1] at this;cases this
 ·intro e
  have:=S.cubes
  rw[<-e,z.1] at this
  cases this
theorem Xo.zlH (S:Xo B H cl rl n m ks ps rows):zjI H rl rows:=⟨ps,S.hrl,yO (fun _ _ z=>z.2.2.2) S.pp⟩
theorem Xo.new (S:Xo B H cl rl n m ks ps rows)(g:Same H H'):Xo B H' cl rl n m ks ps rows:=⟨S.same.trans g,S.ncl,S.nrl,S.ne,g _ _ S.hcl,S.lk,S.kl,g _ _ S.hrl,yO (fun _ _ z=>⟨z.1,z.2.1,z.2.2.1,g _ _ z.2.2.2⟩) S.pp,S.nd,S.rlen,S.sm⟩
theorem zla (r:List Bool):∀i∈zdH r,-2<=i/\i<=2:=fun i hi=>by
 unfold zdH at hi
 obtain⟨b,_,rfl⟩:=List.mem_map.mp hi
 cases b<;>decide
theorem Xo.start {rows:List (List Bool)}(same:Same B H)(ncl:B cl=none)(nrl:B rl=none)(ne:cl≠rl)(hcl:H cl=some (.lst (ks.map cbV)))(lk:∀q∈ks,q.length=n)(kl:ks.length<=2187)(hrl:H rl=some (.lst (ps.map V.ref)))(pp:Paired (fun p r=>B p=none/\p≠cl/\p≠rl/\H p=some (.lst (zZ r))) ps rows)(nd:ps.Nodup)(er:rows.length=ks.length)(n8:n<=8)(lr:∀r∈rows,r.length=n):Xo B H cl rl n 0 ks ps (rows.map zdH):=by
 refine⟨same,ncl,nrl,ne,hcl,lk,kl,hrl,?_,nd,by rw[ztc];omega,fun r hr=>?_⟩
 ·refine zgb (by rw[ztc];exact yU pp) fun i p r hp hr=>?_
  obtain⟨r',hr',z⟩:=tO pp hp
  rw[zte,hr'] at hr
  cases hr
  exact⟨z.1,z.2.1,z.2.2.1,by rw[zjJ];exact z.2.2.2⟩
 ·obtain⟨r',h',rfl⟩:=List.mem_map.mp hr
  refine⟨?_,zla r'⟩
  unfold zdH
  rw[ztc,lr r' h']
  exact n8
theorem zhu {f:Nat->Bool}{rows:List (List Bool)}(h:Cov n f ks rows):∀r∈rows,r.length=n:=fun r hr=>by
 obtain⟨i,hi,e⟩:=ztU hr
 have l:=h.len
 exact(h.own i _ r (ztd (by omega)) (by rw[ztd hi,e])).1
end
end xV
namespace K64
open PySem L2
def top (i:Nat):Stmt:=PySem.Challenge.pw_decidebook_k64_covers_judged.main.body.getD i (.Pass ⟨0,0,0,0⟩)
abbrev zbc:Stmt:=top 9
abbrev wR:List Str:=["marks"]
theorem zeV:zN ["marks"] wR (zu zbc):=fsc (by decide +kernel)
abbrev Jt:Stmt:=top 10
abbrev wL:List Str:=["place", "marks"]
theorem Z1:zN ["place", "marks", "half", "table", "further"] wL (zu Jt):=fsc (by decide +kernel)
abbrev zcE:Stmt:=top 11
abbrev Yy:List Str:=["table", "place", "marks"]
theorem Nm:zN ["table", "place", "marks", "ones", "noughts"] Yy (zu zcE):=fsc (by decide +kernel)
abbrev zbd:Stmt:=top 12
abbrev Wn:List Str:=["table", "row"]
theorem Xh:zN ["table", "row", "bit", "place", "value"] Wn (zu zbd):=fsc (by decide +kernel)
abbrev zcF:Stmt:=top 13
abbrev Zy:List Str:=["table", "place", "value", "marks"]
theorem Np:zN ["table", "place", "value", "marks", "ones", "kept"] Zy (zu zcF):=fsc (by decide +kernel)
abbrev zbe:Stmt:=top 14
abbrev U7:List Str:=["table", "place", "marks"]
theorem zeW:zN ["table", "place", "marks"] U7 (zu zbe):=fsc (by decide +kernel)
abbrev Pg:Stmt:=top 15
abbrev tU:List Str:=["table", "marks"]
theorem Wo:zN ["table", "marks", "place"] tU (zu Pg):=fsc (by decide +kernel)
abbrev zcG:Stmt:=top 16
abbrev Yz:List Str:=["table", "other"]
theorem zgn:zN ["table", "other"] Yz (zu zcG):=fsc (by decide +kernel)
abbrev Ph:Stmt:=top 17
abbrev YQ:List Str:=["places", "values", "marks"]
theorem vp:zN ["places", "values", "marks", "table", "place", "value", "ones"] YQ (zu Ph):=fsc (by decide +kernel)
abbrev Rr:Stmt:=top 18
abbrev Z2:List Str:=["table", "places", "marks"]
theorem wG:zN ["table", "places", "marks", "values", "place", "low", "value"] Z2 (zu Rr):=fsc (by decide +kernel)
abbrev Ju:Stmt:=top 19
abbrev Ve:List Str:=["table", "marks"]
theorem zdK:zN ["table", "marks"] Ve (zu Ju):=fsc (by decide +kernel)
abbrev zcH:Stmt:=top 25
abbrev X4:List Str:=["letter"]
theorem zgo:zN ["letter"] X4 (zu zcH):=fsc (by decide +kernel)
abbrev Nq:Stmt:=top 26
abbrev U8:List Str:=["order"]
theorem zeX:zN ["order"] U8 (zu Nq):=fsc (by decide +kernel)
abbrev zbf:Stmt:=top 27
abbrev Rt:List Str:=["order", "row"]
theorem zh9:zN ["order", "row"] Rt (zu zbf):=fsc (by decide +kernel)
abbrev M7:Stmt:=top 28
abbrev u6:List Str:=["sentence"]
theorem zbN:zN ["sentence"] u6 (zu M7):=fsc (by decide +kernel)
abbrev zbg:Stmt:=top 29
abbrev uL:List Str:=["sentence"]
theorem zeY:zN ["sentence"] uL (zu zbg):=fsc (by decide +kernel)
abbrev Ru:Stmt:=top 30
abbrev uM:List Str:=["level"]
theorem Xp:zN ["level", "found", "sentence"] uM (zu Ru):=fsc (by decide +kernel)
abbrev Vf:Stmt:=top 31
abbrev Vg:List Str:=["some"]
theorem M8:zN ["some", "shape"] Vg (zu Vf):=fsc (by decide +kernel)
abbrev Vw:Stmt:=top 32
abbrev YS:List Str:=["some"]
theorem wA:zN ["some", "level", "deep", "tuples"] YS (zu Vw):=fsc (by decide +kernel)
abbrev TX:Stmt:=top 33
abbrev Zj:List Str:=["order"]
theorem KQ:zN ["order"] Zj (zu TX):=fsc (by decide +kernel)
abbrev Wq:Stmt:=top 34
abbrev vM:List Str:=["some"]
theorem Q5:zN ["some"] vM (zu Wq):=fsc (by decide +kernel)
abbrev Uc:Stmt:=top 35
abbrev vq:List Str:=["order", "letter"]
theorem M9:zN ["order", "letter"] vq (zu Uc):=fsc (by decide +kernel)
abbrev Vh:Stmt:=top 36
abbrev ux:List Str:=["order", "sentence"]
theorem Wr:zN ["order", "sentence", "letter"] ux (zu Vh):=fsc (by decide +kernel)
abbrev Jv:Stmt:=top 37
abbrev Vi:List Str:=["sentence"]
theorem XH:zN ["sentence", "found", "level"] Vi (zu Jv):=fsc (by decide +kernel)
abbrev La:Stmt:=top 38
abbrev XJ:List Str:=["sentence"]
theorem Vx:zN ["sentence", "found", "part"] XJ (zu La):=fsc (by decide +kernel)
abbrev Nr:Stmt:=top 39
abbrev YB:List Str:=["sentence", "order"]
theorem Vj:zN ["sentence", "order", "word", "marks", "tables"] YB (zu Nr):=fsc (by decide +kernel)
abbrev Rv:Stmt:=top 40
abbrev vA:List Str:=["word", "one", "other", "every"]
theorem JQ:zN ["word", "one", "other", "every"] vA (zu Rv):=fsc (by decide +kernel)
abbrev Jw:Stmt:=inClass (top 42) 0
abbrev Vk:List Str:=["self", "order"]
theorem Lb:zN ["self", "order", "marks"] Vk (zu Jw):=fsc (by decide +kernel)
abbrev Ld:Stmt:=inClass (top 42) 1
abbrev wM:List Str:=["self"]
theorem zbO:zN ["self"] wM (zu Ld):=fsc (by decide +kernel)
abbrev zeZ:Stmt:=inClass (top 42) 2
abbrev ze0:List Str:=["self"]
abbrev Le:Stmt:=inClass (top 42) 3
abbrev XM:List Str:=["self", "sentence"]
theorem zbP:zN ["self", "sentence"] XM (zu Le):=fsc (by decide +kernel)
abbrev ze1:Stmt:=inClass (top 42) 4
abbrev ze2:List Str:=["self", "number"]
abbrev Xw:Stmt:=inClass (top 42) 7
abbrev yJ:List Str:=["self", "number"]
theorem Rw:zN ["self", "number"] yJ (zu Xw):=fsc (by decide +kernel)
abbrev JR:Stmt:=inClass (top 42) 8
abbrev JT:List Str:=["self", "number"]
abbrev zdL:Stmt:=inClass (top 42) 9
abbrev zdM:List Str:=["self", "number", "value"]
abbrev TY:Stmt:=inClass (top 42) 11
abbrev xQ:List Str:=["self", "number"]
theorem KR:zN ["self", "number"] xQ (zu TY):=fsc (by decide +kernel)
abbrev Ud:Stmt:=inClass (top 42) 12
abbrev wk:List Str:=["self", "table"]
theorem wN:zN ["self", "table", "marks", "place", "low", "high"] wk (zu Ud):=fsc (by decide +kernel)
abbrev KY:Stmt:=top 45
abbrev QJ:List Str:=["book", "cube"]
theorem zgp:zN ["book", "cube"] QJ (zu KY):=fsc (by decide +kernel)
abbrev Rx:Stmt:=top 46
abbrev uN:List Str:=["book", "cube"]
theorem JV:zN ["book", "cube"] uN (zu Rx):=fsc (by decide +kernel)
abbrev T3:Stmt:=top 47
abbrev Zk:List Str:=["book", "cubes"]
theorem Ue:zN ["book", "cubes", "cube"] Zk (zu T3):=fsc (by decide +kernel)
abbrev Ug:Stmt:=top 48
abbrev YC:List Str:=["cube"]
theorem zbh:zN ["cube", "places"] YC (zu Ug):=fsc (by decide +kernel)
abbrev Jx:Stmt:=top 49
abbrev Vl:List Str:=["book", "room", "cube"]
theorem zdN:zN ["book", "room", "cube"] Vl (zu Jx):=fsc (by decide +kernel)
abbrev Nt:Stmt:=top 50
abbrev U9:List Str:=["book", "room", "cube"]
theorem ze3:zN ["book", "room", "cube"] U9 (zu Nt):=fsc (by decide +kernel)
abbrev QK:Stmt:=top 51
abbrev Uh:List Str:=["cube"]
theorem zgq:zN ["cube"] Uh (zu QK):=fsc (by decide +kernel)
abbrev ze4:Stmt:=top 52
abbrev Lf:List Str:=["book", "room"]
theorem zia:zN ["book", "room"] Lf (zu ze4):=fsc (by decide +kernel)
abbrev wU:Stmt:=top 53
abbrev v8:List Str:=["table", "place", "marks"]
theorem vB:zN ["table", "place", "marks", "low", "high", "either", "noughts", "ones"] v8 (zu wU):=fsc (by decide +kernel)
abbrev zdO:Stmt:=top 54
abbrev zaq:List Str:=["book", "room"]
theorem Ry:zN ["book", "room", "kept", "cube", "own"] zaq (zu zdO):=fsc (by decide +kernel)
abbrev Pj:Stmt:=top 55
abbrev tV:List Str:=["tables"]
theorem vC:zN ["tables", "seen", "again", "table"] tV (zu Pj):=fsc (by decide +kernel)
abbrev zbi:Stmt:=top 56
abbrev Ws:List Str:=["book", "room", "cubes"]
theorem Vm:zN ["book", "room", "cubes", "covered", "cube"] Ws (zu zbi):=fsc (by decide +kernel)
abbrev v9:Stmt:=top 57
abbrev YT:List Str:=["book", "room", "cubes", "rows"]
theorem Wt:zN ["book", "room", "cubes", "rows", "own", "order"] YT (zu v9):=fsc (by decide +kernel)
abbrev T4:Stmt:=top 59
abbrev xg:List Str:=["script", "k"]
theorem Ui:zN ["script", "k"] xg (zu T4):=fsc (by decide +kernel)
abbrev Lg:Stmt:=top 60
abbrev yW:List Str:=["cell", "k", "bound"]
theorem uc:zN ["cell", "k", "bound", "stir", "left", "j"] yW (zu Lg):=fsc (by decide +kernel)
abbrev Pk:Stmt:=top 61
abbrev YW:List Str:=["cell", "limit"]
theorem Wu:zN ["cell", "limit", "found", "k"] YW (zu Pk):=fsc (by decide +kernel)
abbrev vD:Stmt:=top 62
abbrev u9:List Str:=["script", "at", "many", "order"]
theorem yG:zN ["script", "at", "many", "order", "kinds", "made", "k", "cell", "kind", "one", "other", "letter"] u9 (zu vD):=fsc (by decide +kernel)
abbrev Lh:Stmt:=top 63
abbrev tD:List Str:=["size"]
theorem ud:zN ["size", "found", "k", "longer", "row"] tD (zu Lh):=fsc (by decide +kernel)
abbrev Pn:Stmt:=top 64
abbrev uf:List Str:=["sentence", "order", "row"]
theorem wB:zN ["sentence", "order", "row", "word", "one", "other", "at", "low", "high"] uf (zu Pn):=fsc (by decide +kernel)
abbrev Rz:Stmt:=top 65
abbrev Vn:List Str:=["sentence", "order"]
theorem zdP:zN ["sentence", "order"] Vn (zu Rz):=fsc (by decide +kernel)
abbrev Z4:Stmt:=top 66
abbrev wO:List Str:=["cube"]
theorem xq:zN ["cube", "found", "sign", "longer", "row"] wO (zu Z4):=fsc (by decide +kernel)
abbrev Wv:Stmt:=top 67
abbrev Z5:List Str:=["cube", "yes"]
theorem JW:zN ["cube", "yes"] Z5 (zu Wv):=fsc (by decide +kernel)
abbrev Pq:Stmt:=top 68
abbrev YX:List Str:=["cube", "yes"]
theorem RB:zN ["cube", "yes", "at"] YX (zu Pq):=fsc (by decide +kernel)
abbrev Tc:Stmt:=top 69
abbrev XQ:List Str:=["cell", "size"]
theorem zbQ:zN ["cell", "size"] XQ (zu Tc):=fsc (by decide +kernel)
abbrev RD:Stmt:=top 70
abbrev Zz:List Str:=["cube", "row"]
theorem zdQ:zN ["cube", "row"] Zz (zu RD):=fsc (by decide +kernel)
abbrev Ww:Stmt:=top 71
abbrev uO:List Str:=["cubes", "yes", "size"]
theorem T5:zN ["cubes", "yes", "size", "row"] uO (zu Ww):=fsc (by decide +kernel)
abbrev YZ:Stmt:=top 72
abbrev Y0:List Str:=["cubes", "rows", "yes", "size"]
theorem RG:zN ["cubes", "rows", "yes", "size", "k"] Y0 (zu YZ):=fsc (by decide +kernel)
abbrev Wx:Stmt:=top 73
abbrev vN:List Str:=["cubes", "cell", "size"]
theorem wW:zN ["cubes", "cell", "size", "at", "kind", "place"] vN (zu Wx):=fsc (by decide +kernel)
abbrev Z6:Stmt:=top 74
abbrev uy:List Str:=["rows", "cell", "size"]
theorem Zo:zN ["rows", "cell", "size", "at", "kind"] uy (zu Z6):=fsc (by decide +kernel)
abbrev RJ:Stmt:=top 75
abbrev Z7:List Str:=["cubes", "rows", "cell"]
theorem wH:zN ["cubes", "rows", "cell", "at", "k", "one", "place", "sign"] Z7 (zu RJ):=fsc (by decide +kernel)
abbrev S_law:Stmt:=top 76
abbrev p_law:List Str:=["script"]
theorem sc_law:zN ["script", "order", "size", "sentence", "book", "room", "yes", "turn", "kept", "found", "cubes", "rows", "cell"] p_law (zu S_law):=fsc (by decide +kernel)
def xM:List (Str×Int×Int):=[("yes", 0,0),("no", 0,0),("mark", 1,0),("not", 0,1),("and", 0,2),("or", 0,2),("either", 0,2),("if", 0,2),("some", 1,1),("each", 1,1)]
set_option genInjectivity false in
set_option genSizeOf false in
structure Ad where
 vO:Addr
 vP:FuncData
 vJ:Addr
 vK:FuncData
 X5:Addr
 X6:FuncData
 Td:Addr
 Te:FuncData
 YD:Addr
 YF:FuncData
 Nu:Addr
 Nv:FuncData
 Y4:Addr
 Y5:FuncData
 X7:Addr
 X8:FuncData
 Vy:Addr
 Vz:FuncData
 Wy:Addr
 Wz:FuncData
 RK:Addr
 RL:FuncData
 Uj:Addr
 Uk:FuncData
 Nx:Addr
 Nz:FuncData
 Li:Addr
 Lj:FuncData
 Z8:Addr
 Z9:FuncData
 Zq:Addr
 Zr:FuncData
 Yb:Addr
 Yc:FuncData
 RM:Addr
 RN:FuncData
 VB:Addr
 VD:FuncData
 Xq:Addr
 Xr:FuncData
 Zt:Addr
 Zu:FuncData
 tE:Addr
 tG:FuncData
 Yd:Addr
 Ye:FuncData
 RP:Addr
 RQ:FuncData
 Tg:Addr
 Ti:FuncData
 WD:Addr
 WK:FuncData
 uP:Addr
 uQ:FuncData
 Vo:Addr
 RT:FuncData
 vQ:Addr
 vR:FuncData
 ze5:Addr
 ze6:FuncData
 Tj:Addr
 Tn:FuncData
 ze7:Addr
 ze8:FuncData
 yX:Addr
 yZ:FuncData
 JX:Addr
 JZ:FuncData
 zdR:Addr
 zdS:FuncData
 wI:Addr
 wJ:FuncData
 vG:Addr
 vH:FuncData
 KZ:Addr
 K1:FuncData
 Yg:Addr
 Yh:FuncData
 Xu:Addr
 Xv:FuncData
 Wa:Addr
 Wb:FuncData
 RV:Addr
 RW:FuncData
 NK:Addr
 NP:FuncData
 QL:Addr
 QM:FuncData
 zbj:Addr
 zbk:FuncData
 tX:Addr
 tY:FuncData
 zdT:Addr
 zdU:FuncData
 Y6:Addr
 Y7:FuncData
 Tp:Addr
 Tq:FuncData
 VF:Addr
 VG:FuncData
 xR:Addr
 xT:FuncData
 xu:Addr
 xG:FuncData
 VH:Addr
 VJ:FuncData
 YG:Addr
 YH:FuncData
 Yi:Addr
 Yj:FuncData
 tZ:Addr
 Za:FuncData
 RX:Addr
 RZ:FuncData
 uz:Addr
 uD:FuncData
 WL:Addr
 WM:FuncData
 VL:Addr
 VN:FuncData
 Tr:Addr
 Tt:FuncData
 Xi:Addr
 Xj:FuncData
 Yk:Addr
 Yl:FuncData
 VP:Addr
 VR:FuncData
 Zv:Addr
 Zw:FuncData
 Ym:Addr
 Yn:FuncData
 WQ:Addr
 WR:FuncData
 a_law:Addr
 d_law:FuncData
 zE:Addr
 zar:Addr
 zbR:Tok
 ze9:Tok
 Ul:Addr
 zib:List (Str×Value)
 zas:Addr
structure Txt (P:Program)(w:World)(K:Frag)(mg:Str->Option Value)(a:Ad):Prop where
 zmH:mg "Book"=some (.ref a.zE)
 uR:Df K mg "all_rows" zbc a.vO a.vP wR
 Xk:Df K mg "rows_with" Jt a.vJ a.vK wL
 Um:Df K mg "flipped" zcE a.X5 a.X6 Yy
 zbl:Df K mg "value_at" zbd a.Td a.Te Wn
 YJ:Df K mg "held_at" zcF a.YD a.YF Zy
 zbm:Df K mg "hangs_on" zbe a.Nu a.Nv U7
 Pr:Df K mg "first_place" Pg a.Y4 a.Y5 tU
 QS:Df K mg "without" zcG a.X7 a.X8 Yz
 Pu:Df K mg "rows_having" Ph a.Vy a.Vz YQ
 R3:Df K mg "first_values" Rr a.Wy a.Wz Z2
 Jy:Df K mg "first_row" Ju a.RK a.RL Ve
 K3:Df K mg "is_mark" zcH a.Uj a.Uk X4
 zbn:Df K mg "is_order" Nq a.Nx a.Nz U8
 zfa:Df K mg "is_row" zbf a.Li a.Lj Rt
 Tv:Df K mg "letters_of" M7 a.Z8 a.Z9 u6
 Tw:Df K mg "parts_of" zbg a.Zq a.Zr uL
 WT:Df K mg "parts_of_all" Ru a.Yb a.Yc uM
 Jz:Df K mg "is_shaped" Vf a.RM a.RN Vg
 Px:Df K mg "is_sentence" Vw a.VB a.VD YS
 T6:Df K mg "must_be_order" TX a.Xq a.Xr Zj
 WW:Df K mg "must_be_sentence" Wq a.Zt a.Zu vM
 Uo:Df K mg "must_have_mark" Uc a.tE a.tG vq
 Vp:Df K mg "must_have_marks" Vh a.Yd a.Ye ux
 JB:Df K mg "tuples_in" Jv a.RP a.RQ Vi
 Lk:Df K mg "letters_in" La a.Tg a.Ti XJ
 NQ:Df K mg "table_of" Nr a.WD a.WK YB
 R4:Df K mg "table_of_two" Rv a.uP a.uQ vA
 zcI:Df K mg "is_cube" KY a.KZ a.K1 QJ
 WX:Df K mg "must_be_cube" Rx a.Yg a.Yh uN
 T7:Df K mg "must_be_cubes" T3 a.Xu a.Xv Zk
 Wc:Df K mg "rows_of" Ug a.Wa a.Wb YC
 R5:Df K mg "is_within" Jx a.RV a.RW Vl
 zbo:Df K mg "is_prime" Nt a.NK a.NP U9
 zcJ:Df K mg "widened" QK a.QL a.QM Uh
 zfb:Df K mg "primes" ze4 a.zbj a.zbk Lf
 Zb:Df K mg "primes_from" wU a.tX a.tY v8
 zhv:Df K mg "cover" zdO a.zdT a.zdU zaq
 Y8:Df K mg "rows_of_one" Pj a.Y6 a.Y7 tV
 NT:Df K mg "is_cover" zbi a.Tp a.Tq Ws
 Py:Df K mg "cover_shows" v9 a.VF a.VG YT
 yD:Df K mg "_law_cell_at" T4 a.xR a.xT xg
 zV:Df K mg "_law_draw" Lg a.xu a.xG yW
 Pz:Df K mg "_law_order" Pk a.VH a.VJ YW
 Uq:Df K mg "_law_sentence" vD a.YG a.YH u9
 Tz:Df K mg "_law_rows" Lh a.Yi a.Yj tD
 ug:Df K mg "_law_value" Pn a.tZ a.Za uf
 JC:Df K mg "_law_yes" Rz a.RX a.RZ Vn
 Vq:Df K mg "_law_cube_rows" Z4 a.uz a.uD wO
 WY:Df K mg "_law_inside" Wv a.WL a.WM Z5
 PB:Df K mg "_law_prime" Pq a.VL a.VN YX
 Ln:Df K mg "_law_cube" Tc a.Tr a.Tt XQ
 R6:Df K mg "_law_has" RD a.Xi a.Xj Zz
 W0:Df K mg "_law_covers" Ww a.Yk a.Yl uO
 PJ:Df K mg "_law_shows" YZ a.VP a.VR Y0
 W2:Df K mg "_law_bent_cubes" Wx a.Zv a.Zw vN
 Vr:Df K mg "_law_bent_rows" Z6 a.Ym a.Yn uy
 R7:Df K mg "_law_forged" RJ a.WQ a.WR Z7
 f_law:Df K mg "law" S_law a.a_law a.d_law p_law
 JD:Dm K a.zE "__init__" "Book.__init__" Jw a.Vo a.RT Vk
 Yo:Dm K a.zE "order" "Book.order" Ld a.vQ a.vR wM
 zlI:Dm K a.zE "size" "Book.size" zeZ a.ze5 a.ze6 ze0
 Lp:Dm K a.zE "enter" "Book.enter" Le a.Tj a.Tn XM
 zlJ:Dm K a.zE "room" "Book.room" ze1 a.ze7 a.ze8 ze2
 wX:Dm K a.zE "must_be_room" "Book.must_be_room" Xw a.yX a.yZ yJ
 zio:Dm K a.zE "place_of" "Book.place_of" JR a.JX a.JZ JT
 zlb:Dm K a.zE "going" "Book.going" zdL a.zdR a.zdS zdM
 Zm:Dm K a.zE "table_at" "Book.table_at" TY a.wI a.wJ xQ
 tH:Dm K a.zE "room_with" "Book.room_with" Ud a.vG a.vH wk
 yQ:Cls K a.zE
 zlc:Mk K a.zE a.Vo
 Zc:Wg K a.zE "marks"
 Y9:Wg K a.zE "rooms"
 W3:Wg K a.zE "tables"
 vZ:Wg K a.zE "numbers"
 zld:mg "MARKS"=some (.ref a.zar)
 zle:∀H,wY K H a.zar ((["a", "b", "c", "d", "e", "f", "g", "h"]:List Str).map V.str)
 zbS:mg "MOST_TUPLES"=some (.int 200 a.zbR)
 zfc:mg "MOST_DEEP"=some (.int 24 a.ze9)
 Lq:mg "SHAPES"=some (.ref a.Ul)
 W4:Shp K P w a.Ul a.zib xM
 zlf:mg "SIGNS"=some (.ref a.zas)
 zlg:∀H,wY K H a.zas ((["-", "0", "1"]:List Str).map V.str)
 T8:mg "all"=none
 zn0:mg "any"=none
 zmI:mg "bool"=none
 R8:mg "enumerate"=none
 zhw:mg "int"=none
 TF:mg "isinstance"=none
 yu:mg "len"=none
 NZ:mg "list"=none
 zfd:mg "max"=none
 zn1:mg "min"=none
 uE:mg "range"=none
 zjO:mg "repr"=none
 zn2:mg "set"=none
 zhx:mg "str"=none
 zlh:mg "tuple"=none
 zlK:mg "zip"=none
theorem x_law {K:Frag}{mg:Str->Option Value}{f:Addr}{d:FuncData}(F:Df K mg "law" S_law f d p_law):∀(s:Shared) (u:Value),BindsTo s d ⟨[u],[]⟩ [("script", u)]:=by
 obtain⟨_,_,_,_,_,_,_,_,_,rfl,_,_⟩:=F.F.ex
 exact fun s u=>.of_eq rfl
theorem zn3 {P:Program}{w:World}{K:Frag}{mg:Str->Option Value}{x0 x2 x4 x6 x8 x10 x12 x14 x16 x18 x20 x22 x24 x26 x28 x30 x32 x34 x36 x38 x40 x42 x44 x46 x48 x50 x52 x54 x56 x58 x60 x62 x64 x66 x68 x70 x72 x74 x76 x78 x80 x82 x84 x86 x88 x90 x92 x94 x96 x98 x100 x102 x104 x106 x108 x110 x112 x114 x116 x118 x120 x122 x124 x126 x128 x130 x132 x134 x136 x137 x140 x142:Addr}{x1 x3 x5 x7 x9 x11 x13 x15 x17 x19 x21 x23 x25 x27 x29 x31 x33 x35 x37 x39 x41 x43 x45 x47 x49 x51 x53 x55 x57 x59 x61 x63 x65 x67 x69 x71 x73 x75 x77 x79 x81 x83 x85 x87 x89 x91 x93 x95 x97 x99 x101 x103 x105 x107 x109 x111 x113 x115 x117 x119 x121 x123 x125 x127 x129 x131 x133 x135:FuncData}{x138 x139:Tok}{x141:List (Str×Value)}(t:Txt P w K mg ⟨x0,x1,x2,x3,x4,x5,x6,x7,x8,x9,x10,x11,x12,x13,x14,x15,x16,x17,x18,x19,x20,x21,x22,x23,x24,x25,x26,x27,x28,x29,x30,x31,x32,x33,x34,x35,x36,x37,x38,x39,x40,x41,x42,x43,x44,x45,x46,x47,x48,x49,x50,x51,x52,x53,x54,x55,x56,x57,x58,x59,x60,x61,x62,x63,x64,x65,x66,x67,x68,x69,x70,x71,x72,x73,x74,x75,x76,x77,x78,x79,x80,x81,x82,x83,x84,x85,x86,x87,x88,x89,x90,x91,x92,x93,x94,x95,x96,x97,x98,x99,x100,x101,x102,x103,x104,x105,x106,x107,x108,x109,x110,x111,x112,x113,x114,x115,x116,x117,x118,x119,x120,x121,x122,x123,x124,x125,x126,x127,x128,x129,x130,x131,x132,x133,x134,x135,x136,x137,x138,x139,x140,x141,x142⟩):∃a,Txt P w K mg a:=⟨_,t⟩
end K64
namespace K64
open PySem L2 xV
section
variable {P:Program}{w:World}{K:Frag}{mg:Str->Option Value}{base:Heap}{a:Ad}{k:Nat}
theorem zfe (T:Txt P w K mg a):zF P w K mg base zY (k+1) a.vO a.vP wR uY:=by
 refine T.uR.F.ok zeV (fun vs H Q E h=>?_) (fun cdv A outer s H vs Q E hr h=>?_)
 ·obtain⟨n,rfl,_⟩:=h
  rfl
 obtain⟨n,rfl,hn,q⟩:=h
 refine⟨_,(zq (zL (zK Kc (zK ZQ zm (zK ZQ zm (pv 0))) zm))),?_⟩
 have h1:=zhT hn
 have one:1<2^10000:=zcm (k:=1) (by decide) (by decide)
 refine⟨_,rfl,1,n,rfl,rfl,one,by omega,1,1*2^n,rfl,rfl,one,by omega,_,1,rfl,rfl,?_⟩
 have e:(((1*2^(1*2^n):Nat):Int)-1)=((2^2^n-1:Nat):Int):=by
  rw[Nat.one_mul,Nat.one_mul]
  have:=Nat.two_pow_pos (2^n)
  omega
 show Q (.int (((1*2^(1*2^n):Nat):Int)-1)) H
 rw[e]
 exact q
theorem zdV (T:Txt P w K mg a):zF P w K mg base zY (k+1) a.vJ a.vK wL uH:=by
 refine T.Xk.F.ok Z1 (fun vs H Q E h=>?_) (fun cdv A outer s H vs Q E hr h=>?_)
 ·obtain⟨p,n,rfl,_⟩:=h
  rfl
 obtain⟨p,n,rfl,hp,hn,q⟩:=h
 refine⟨_,(zj (zH 2 Z1.nd (zK ZQ zm (pv 0)))
   (zj (zH 3 Z1.nd (zK ZQ (zK Kc (zK ZQ zm (pv 2)) zm) (pv 2)))
   (zj (xX PassesOwn.never rfl (zb8 rfl T.uE (za (zK xH (pv 0) zm) (za (pv 1) zc))) (yw (i:=4) Z1.nd rfl (Or.inl rfl)) (zq (zH 3 Z1.nd (zK Vt (pv 3) (zK ZQ (pv 3) (zK ZQ zm (pv 4)))))))
   (zq (zL (pv 3)))))),?_⟩
 have one:1<2^10000:=zcm (k:=1) (by decide) (by decide)
 have h1:=zhT (n:=p) (by omega)
 have hh:2^p<2^10000:=Nat.pow_lt_pow_right (by decide) (by omega)
 have pp:=Nat.two_pow_pos (2^p)
 have e1:((1*2^(1*2^p):Nat):Int)-1=((2^2^p-1:Nat):Int):=by
  rw[Nat.one_mul,Nat.one_mul]
  omega
 have lt1:2^2^p-1<2^10000:=ztl (Nat.sub_lt pp (by decide)) (ztI (by decide) (by omega))
 refine⟨_,rfl,1,p,rfl,rfl,one,by omega,?_⟩
 refine⟨_,rfl,1,1*2^p,rfl,rfl,one,by omega,_,1,rfl,rfl,_,rfl,2^2^p-1,1*2^p,congrArg V.int e1,rfl,lt1,by omega,?_⟩
 refine⟨_,rfl,_,1,rfl,rfl,_,rfl,(p:Int)+1,(n:Int),rfl,⟨by omega,by omega,by omega,by omega⟩,?_⟩
 refine uU (fun i σ H'=>H'=H/\∃(N:Nat) (f:Option V),σ=[some (.int p),some (.int n),some (.int ((1*2^p:Nat):Int)),some (.int N),f]/\z9 (p+1+i) N (fun b=>b.testBit p)) ⟨rfl,_,_,rfl,?_⟩ ?_ ?_
 ·rw[Nat.one_mul]
  exact zhS p
 ·rintro i σ H' hi ⟨rfl,N,f,rfl,tb⟩
  have hi':p+1+i<n:=by omega
  have h2:=zhT (n:=p+1+i) (by omega)
  have e2:V.int ((p:Int)+1+(i:Nat))=V.int ((p+1+i:Nat):Int):=congrArg V.int (by omega)
  have lt2:N<2^10000:=zcm (ziV tb) (zty h2 (by decide))
  refine⟨_,rfl,_,rfl,_,rfl,1,p+1+i,rfl,e2,one,by omega,N,1*2^(p+1+i),rfl,rfl,lt2,by omega,N,N*2^(1*2^(p+1+i)),rfl,rfl,?_⟩
  refine⟨rfl,_,_,rfl,?_⟩
  rw[Nat.one_mul]
  exact zfZ (m:=p+1+i) (by omega) tb
 ·rintro σ H' ⟨rfl,N,f,rfl,tb⟩
  have e3:p+1+((n:Int)-((p:Int)+1)).toNat=n:=by omega
  rw[e3] at tb
  exact⟨_,rfl,q N tb⟩
theorem zgr (T:Txt P w K mg a)(wj:zF P w K mg base zY k a.vJ a.vK wL uH):zF P w K mg base zY (k+1) a.X5 a.X6 Yy XR:=by
 refine T.Um.F.ok Nm (fun vs H Q E h=>?_) (fun cdv A outer s H vs Q E hr h=>?_)
 ·obtain⟨N,p,n,f,rfl,_⟩:=h
  rfl
 obtain⟨N,p,n,f,rfl,hp,hn,tb,q⟩:=h
 refine⟨_,(zj (zH 3 Nm.nd (zK Zg (pv 0) (zp wj hr T.Xk (za (pv 1) (za (pv 2) zc)))))
   (zj (zH 4 Nm.nd (zK Qm (pv 0) (pv 3)))
   (zq (zL (zK Vt (zK zgZ (pv 3) (zK ZQ zm (pv 1))) (zK ZQ (pv 4) (zK ZQ zm (pv 1)))))))),?_⟩
 have one:1<2^10000:=zcm (k:=1) (by decide) (by decide)
 have h1:=zhT (n:=p) (by omega)
 have h2:=zhT (n:=n) (by omega)
 refine⟨_,rfl,_,rfl,_,rfl,p,n,rfl,hp,hn,fun R tr=>?_⟩
 refine⟨N,R,rfl,rfl,?_⟩
 refine⟨_,rfl,_,rfl,N,N&&&R,rfl,rfl,?_⟩
 have o:=Zf tb tr
 have z:=Uz tb o
 have lt2:N ^^^ (N&&&R)<2^10000:=zcm (ziV z) (zty h2 (by decide))
 refine⟨_,rfl,_,rfl,1,p,rfl,rfl,one,by omega,N&&&R,1*2^p,rfl,rfl,_,rfl,_,rfl,1,p,rfl,rfl,one,by omega,N ^^^ (N&&&R),1*2^p,rfl,rfl,lt2,by omega,_,_,rfl,rfl,?_⟩
 refine q _ ?_
 rw[Nat.one_mul]
 exact ziW hp tb tr
theorem zgs (T:Txt P w K mg a):zF P w K mg base zY (k+1) a.xR a.xT xg (Mu K):=by
 refine T.yD.F.ok Ui (fun vs H Q E h=>?_) (fun cdv A outer s H vs Q E hr h=>?_)
 ·obtain⟨l,ns,i,rfl,_⟩:=h
  rfl
 obtain⟨l,ns,i,rfl,hS,h0,q⟩:=h
 refine⟨_,(zj (yq (zJ zgO (pv 1) (zB zy rfl T.yu zX (za (pv 0) zc)) (zM _)) (zq (zL (z8 yd (pv 0) (pv 1) (fun _ _=>rfl)))) zT)
   (zq (zL zm))),?_⟩
 refine⟨_,rfl,_,rfl,l,_,rfl,.inl hS,_,_,rfl,rfl,_,rfl,?_⟩
 refine yc (fun c=>?_) (fun c=>?_)
 ·have c':i<(((ns.map V.int).length:Nat):Int):=of_decide_eq_true c
  rw[ztc] at c'
  have hi:i.toNat<ns.length:=by omega
  have e:atI (ns.map V.int) i=some (.int ns[i.toNat]):=by
   have q:=yC (xs:=ns.map V.int) (j:=i.toNat) (v:=.int ns[i.toNat]) (by rw[zte,ztd hi];rfl)
   have ei:((i.toNat:Nat):Int)=i:=by omega
   rw[ei] at q
   exact q
  exact⟨_,rfl,_,rfl,l,_,i,_,rfl,rfl,hS,e,q _⟩
 ·exact q 0
theorem zli (T:Txt P w K mg a):zF P w K mg base zY (k+1) a.xu a.xG yW Vu:=by
 refine T.zV.F.ok uc (fun vs H Q E h=>?_) (fun cdv A outer s H vs Q E hr h=>?_)
 ·obtain⟨c,m,b,rfl,_⟩:=h
  rfl
 obtain⟨c,m,b,rfl,hm,b0,b1,q⟩:=h
 refine⟨_,(zj (yq (zJ zlt (pv 0) (zK zit zm zm) (zM _)) (zj (zH 4 uc.nd (pv 0))
   (zj (xX PassesOwn.never rfl (wZ rfl T.uE (za (pv 1) zc)) (yw (i:=5) uc.nd rfl (Or.inl rfl)) (zq (zH 4 uc.nd (zK zgK (pv 4) (pv 2)))))
   (zq (zL (zK wQ (pv 4) (pv 2)))))) zT)
   (zj (zH 3 uc.nd (zK wQ (zK Kd (zK xH (zK xH (zK wQ (pv 0) zm) (zK Kd zm (pv 1))) zm) zm) zm))
   (zj (zH 3 uc.nd (zK wQ (zK xH (zK xH (zK Kd (pv 3) (pv 3)) (zK Kd zm (pv 1))) zm) zm))
   (zq (zL (zK wQ (zK zgK (zK wQ (zK Kd (pv 3) zm) zm) zm) (pv 2))))))),?_⟩
 refine⟨_,rfl,10,18,rfl,rfl,⟨by decide,by decide,by decide⟩,_,_,rfl,rfl,_,rfl,?_⟩
 refine yc (fun _=>?_) (fun _=>?_)
 ·refine⟨_,rfl,?_⟩
  refine⟨_,rfl,(m:Int),rfl,by omega,by omega,?_⟩
  refine uU (fun i σ H'=>H'=H/\∃(x:Int) (f1 f2:Option V),σ=[some (.int c),some (.int m),some (.int b),f1,some (.int x),f2]) ⟨rfl,c,_,_,rfl⟩ ?_ ?_
  ·rintro i σ H' hi ⟨rfl,x,f1,f2,rfl⟩
   refine⟨_,rfl,_,rfl,x,b,rfl,rfl,⟨b0,b1⟩,?_⟩
   exact⟨rfl,x / b,_,_,rfl⟩
  ·rintro σ H' ⟨rfl,x,f1,f2,rfl⟩
   refine⟨_,rfl,_,rfl,x,b,rfl,rfl,b0,?_⟩
   exact q _ (ztV _ (by omega)) (ztR _ b0)
 ·have p1:(0:Int)<1000000007:=by decide
  have p2:(0:Int)<2147483647:=by decide
  have p3:(0:Int)<2147483629:=by decide
  refine⟨_,rfl,c,1000000007,rfl,rfl,p1,_,rfl,1009,(m:Int),rfl,rfl,.inl ⟨by decide,by decide⟩,_,_,rfl,rfl,_,17,rfl,rfl,_,69621,rfl,rfl,.inr ⟨by decide,by decide⟩,_,2147483647,rfl,rfl,p2,?_⟩
  have z0:0<=(c%1000000007+1009*(m:Int)+17)*69621%2147483647:=ztV _ (by decide)
  have z1:(c%1000000007+1009*(m:Int)+17)*69621%2147483647<2147483647:=ztR _ p2
  refine⟨_,rfl,_,rfl,_,_,rfl,rfl,.inl ⟨Int.lt_of_lt_of_le (by decide) z0,Int.lt_trans z1 (by decide)⟩,_,rfl,40503,(m:Int),rfl,rfl,.inl ⟨by decide,by decide⟩,_,_,rfl,rfl,_,5,rfl,rfl,_,2147483629,rfl,rfl,p3,?_⟩
  refine⟨_,rfl,_,48271,rfl,rfl,.inr ⟨by decide,by decide⟩,_,2147483647,rfl,rfl,p2,_,32,rfl,rfl,⟨by decide,by decide⟩,_,rfl,_,b,rfl,rfl,b0,?_⟩
  exact q _ (ztV _ (by omega)) (ztR _ b0)
theorem zjP (T:Txt P w K mg a)(zR:zF P w K mg base zY k a.xu a.xG yW Vu):zF P w K mg base zY (k+1) a.VH a.VJ YW zc9:=by
 refine T.Pz.F.ok Wu (fun vs H Q E h=>?_) (fun cdv A outer s H vs Q E hr h=>?_)
 ·obtain⟨c,n,rfl,_⟩:=h
  rfl
 obtain⟨c,n,rfl,hn,h8,q⟩:=h
 refine⟨_,(zj (zH 2 Wu.nd (yM zc))
   (zj (xX PassesOwn.never rfl (wZ rfl T.uE (za (zK xH zm (zp zR hr T.zV (za (pv 0) (za zm (za (pv 1) zc))))) zc)) (yw (i:=3) Wu.nd rfl (Or.inl rfl)) (zq (yh (vf PySem.F.plainAttrs_list PySem.F.slot_list_insert PySem.F.type_list_insert Qi (pv 2) (za (zK wQ (zp zR hr T.zV (za (pv 0) (za (zK xH zm (pv 3)) (za zm zc)))) (zK xH (pv 3) zm)) (za (z8 PN yg (pv 3) (fun _ _=>rfl)) zc))))))
   (zq (zL (pv 2))))),?_⟩
 refine⟨by show 0<=sizeLine;decide,fun l hl=>?_⟩
 refine⟨_,rfl,_,rfl,c,0,(n:Int),rfl,by decide,by omega,by omega,fun r r0 r1=>?_⟩
 refine⟨1,r,rfl,rfl,1+r,rfl,by omega,by omega,?_⟩
 refine uU (fun i σ H'=>∃(os:List Str) (f1:Option V),Same H H'/\H' l=some (.lst (os.map V.str))/\os.Nodup/\os.length=i/\(∀x∈os,x∈uw.take i)/\σ=[some (.int c),some (.int n),some (.ref l),f1])
  ⟨[],_,SJ hl _,zf,List.nodup_nil,rfl,(fun _ h=>nomatch h),rfl⟩ ?_ ?_
 ·rintro i σ H' hi ⟨os,f1,g,hl',nd,le,mem,rfl⟩
  have i8:i<8:=by omega
  obtain⟨ch,hc1,hc2⟩:=zkz i8
  have e1:(1:Int)+(0+(i:Nat))=((1+i:Nat):Int):=by omega
  have e2:(0:Int)+(i:Nat)=((i:Nat):Int):=by omega
  refine⟨_,rfl,.inl ⟨rfl,_,zP.of hl'⟩,?_⟩
  refine⟨_,rfl,_,rfl,1,_,rfl,rfl,c,1+i,5040,congrArg (fun z=>[V.int c,V.int z,V.int 5040]) e1,by omega,by decide,by decide,fun r' s0 s1=>?_⟩
  refine⟨_,rfl,_,1,rfl,rfl,r',_,rfl,rfl,by show(0:Int)<0+(i:Nat)+1;omega,?_⟩
  refine⟨_,rfl,_,(i:Int),ch,rfl,congrArg V.int e2,by show(Str.ofString "abcdefgh").length<=sizeLine;decide,hc1,?_⟩
  have m0:0<=r'%(0+(i:Nat)+1):=ztV _ (by omega)
  have m1:r'%(0+(i:Nat)+1)<0+(i:Nat)+1:=ztR _ (by omega)
  generalize hj:r'%(0+((i:Nat):Int)+1)=j at m0 m1
  refine⟨l,os.map V.str,j,_,rfl,by rw[<-hj],hl',m0,by rw[ztc];omega,by rw[ztc];exact ztl (show os.length<9 by omega) (by decide),?_⟩
  have nm:(⟨#[ch]⟩:Str)∉os:=fun hm=>ziY hc2 (mem _ hm)
  have ml:∀x∈uw.take i,x∈uw.take (i+1):=fun x hx=>by
   rw[List.take_succ]
   exact List.mem_append_left _ hx
  have mn:(⟨#[ch]⟩:Str)∈uw.take (i+1):=by
   rw[List.take_succ,hc2]
   exact ztt _ (by simp)
  refine⟨os.take j.toNat++(⟨#[ch]⟩:Str)::os.drop j.toNat,_,?_,?_,?_,?_,?_,rfl⟩
  ·exact fun b o hb=>by rw[zG (zA hb hl)];exact g b o hb
  ·rw[zf]
   simp
  ·refine List.perm_middle.nodup_iff.mpr (List.nodup_cons.mpr ⟨?_,?_⟩)
   ·rw[List.take_append_drop];exact nm
   ·rw[List.take_append_drop];exact nd
  ·rw[ztk,zto,ztA,List.length_drop]
   omega
  ·intro x hx
   rcases List.mem_append.mp hx with z | z
   ·exact ml x (mem x (List.mem_of_mem_take z))
   ·rcases List.mem_cons.mp z with z | z
    ·rw[z];exact mn
    ·exact ml x (mem x (List.mem_of_mem_drop z))
 ·rintro σ H' ⟨os,f1,g,hl',nd,le,mem,rfl⟩
  refine⟨_,rfl,q l H' os g hl' ⟨nd,fun x hx=>List.mem_of_mem_take (mem x hx),by omega⟩ (by omega)⟩
theorem zff (T:Txt P w K mg a)(yI:zF P w K mg base zY k a.xR a.xT xg (Mu K))(zR:zF P w K mg base zY k a.xu a.xG yW Vu) :
  zF P w K mg base zY (k+1) a.YG a.YH u9 (Nb K):=by
 refine T.Uq.F.ok yG (fun vs H Q E h=>?_) (fun cdv A outer s H vs Q E hr h=>?_)
 ·obtain⟨sc,ol,ns,t,m,os,rfl,_⟩:=h
  rfl
 obtain⟨sc,ol,ns,t,m,os,rfl,hS,hO,o0,o8,m0,m40,t60,q⟩:=h
 obtain⟨st0,h0⟩:∃st0,st0=(ur vD).headD (.Pass ⟨0,0,0,0⟩):=⟨_,rfl⟩
 have hb:ur vD=st0::(ur vD).tail:=by rw[h0];rfl
 rw[hb]
 have hk:zc7 st0=some (Str.ofString "kinds", P0):=by rw[h0];rfl
 refine⟨_,zj (zky (i:=4) hk yG.nd rfl (Or.inl rfl) (.inl rfl)) (zj (zH 5 yG.nd (yM (za (uG (za yg (za (z8 yd (pv 3) (zK wQ (zp zR hr T.zV (za (zp yI hr T.yD (za (pv 0) (za (pv 1) zc))) (za zm (za zm zc)))) (zB zy rfl T.yu zX (za (pv 3) zc))) (fun _ _=>rfl)) zc))) zc)))
   (zj (xX PassesOwn.never rfl (zb8 rfl T.uE (za zm (za (pv 2) zc))) (yw (i:=6) yG.nd rfl (Or.inl rfl)) (zj (zH 7 yG.nd (zp yI hr T.yD (za (pv 0) (za (zK xH (pv 1) (pv 6)) zc))))
   (zj (zH 8 yG.nd (z8 yd (pv 4) (zp zR hr T.zV (za (pv 7) (za zm (za zm zc)))) (fun _ _=>rfl)))
   (zj (zH 9 yG.nd (z8 yd (pv 5) (zK Kc (zis zfG zm) (zK wQ (zp zR hr T.zV (za (pv 7) (za zm (za zm zc)))) (zB zy rfl T.yu zX (za (pv 5) zc)))) (fun _ _=>rfl)))
   (zj (zH 10 yG.nd (z8 yd (pv 5) (zK wQ (zp zR hr T.zV (za (pv 7) (za zm (za zm zc)))) (zB zy rfl T.yu zX (za (pv 5) zc))) (fun _ _=>rfl)))
   (zj (zH 11 yG.nd (z8 yd (pv 3) (zK wQ (zp zR hr T.zV (za (pv 7) (za zm (za zm zc)))) (zB zy rfl T.yu zX (za (pv 3) zc))) (fun _ _=>rfl)))
   (zq (yq (PW.pt (Q7 (zJ yH (pv 8) yg (zM _)) (Us (zJ yH (pv 8) yg (zM _))))) (zq (yh (vf PySem.F.plainAttrs_list PySem.F.slot_list_append PySem.F.type_list_append uW (pv 5) (za (uG (za (pv 8) zc)) zc)))) (zq (yq (zJ yH (pv 8) yg (zM _)) (zq (yh (vf PySem.F.plainAttrs_list PySem.F.slot_list_append PySem.F.type_list_append uW (pv 5) (za (uG (za yg (za (pv 11) zc))) zc)))) (zq (yq (zJ yH (pv 8) yg (zM _)) (zq (yh (vf PySem.F.plainAttrs_list PySem.F.slot_list_append PySem.F.type_list_append uW (pv 5) (za (uG (za yg (za (pv 9) zc))) zc)))) (zq (yq (PW.pt (Q7 (zJ yH (pv 8) yg (zM _)) (Us (zJ yH (pv 8) yg (zM _))))) (zq (yh (vf PySem.F.plainAttrs_list PySem.F.slot_list_append PySem.F.type_list_append uW (pv 5) (za (uG (za (pv 8) (za (pv 11) (za (pv 9) zc)))) zc)))) (zq (yh (vf PySem.F.plainAttrs_list PySem.F.slot_list_append PySem.F.type_list_append uW (pv 5) (za (uG (za (pv 8) (za (pv 10) (za (pv 9) zc)))) zc))))))))))))))))))
   (zq (zL (z8 yd (pv 5) (zis zfG zm) (fun _ _=>rfl)))))),?_⟩
 refine⟨by show 14<=sizeLine;decide,fun kd hkd=>?_⟩
 have g1:=SJ hkd (.lst (P0.map V.str))
 have hS1:=g1.seq hS
 have hO1:=g1.seq hO
 refine⟨_,rfl,_,rfl,_,rfl,sc,ns,(t:Int),rfl,hS1,by omega,fun c0=>?_⟩
 refine⟨c0,3,40320,rfl,by decide,by decide,by decide,fun r0 _ _=>?_⟩
 obtain⟨x0,hx0,hx0'⟩:=Ji o0 r0
 have pl:(0:Int)<((os.map V.str).length:Nat):=by rw[ztc];omega
 refine⟨_,rfl,ol,_,rfl,.inl hO1,_,_,rfl,rfl,pl,ol,_,_,.str x0,rfl,rfl,hO1,hx0',by show 2<=sizeLine;decide,fun p0 hp0=>?_⟩
 refine⟨by show 1<=sizeLine;decide,fun md hmd=>?_⟩
 have g2:=SJ hp0 (.tup [.str "mark", .str x0])
 have g3:=SJ hmd (.lst [.ref p0])
 have f0:H md=none:=(g1.trans g2).free hmd
 have nk:md≠kd:=Ne.symm (zA (g2 _ _ zf) hmd)
 have M0:Made H (upd (upd (upd H kd (.lst (P0.map V.str))) p0 (.tup [.str "mark", .str x0])) md (.lst [.ref p0])) os md kd [p0] 1:=by
  refine⟨g1.trans (g2.trans g3),zf,g3 _ _ (g2 _ _ zf),by simp,fun p hp=>?_⟩
  have e:p=p0:=by simpa using hp
  subst e
  exact⟨.mk x0,g3 _ _ zf,hx0,zts _⟩
 refine⟨_,rfl,1,(m:Int),rfl,⟨by omega,by omega,by omega,by omega⟩,?_⟩
 refine uU (fun i σ H'=>∃(ps:List Addr) (f1 f2 f3 f4 f5 f6:Option V),Made H H' os md kd ps (i+1)/\ps.length=i+1/\σ=[some (.ref sc),some (.int t),some (.int m),some (.ref ol),some (.ref kd),some (.ref md),f1,f2,f3,f4,f5,f6])
  ⟨[p0],_,_,_,_,_,_,M0,rfl,rfl⟩ ?_ ?_
 ·rintro i σ H' hi ⟨ps,f1,f2,f3,f4,f5,f6,M,lp,rfl⟩
  have hS2:=M.old.seq hS
  have hO2:=M.old.seq hO
  have e1:(t:Int)+(1+(i:Nat))=((t+(1+i):Nat):Int):=by omega
  refine⟨_,rfl,_,rfl,_,rfl,_,_,rfl,rfl,sc,ns,_,rfl,hS2,by omega,fun c=>?_⟩
  refine⟨_,rfl,_,rfl,c,0,14,rfl,by decide,by decide,by decide,fun d d0 d1=>?_⟩
  obtain⟨jk,vk,qk1,qk2⟩:=zdb (xs:=P0.map V.str) (i:=d) (by show -((14:Nat):Int)<=d;omega) (by show d<((14:Nat):Int);omega)
  obtain⟨kind,hkm,hkv⟩:∃kind,kind∈P0/\vk=.str kind:=by
   rw[zte] at qk2
   cases hx:P0[jk]? with
   | none=>rw[hx] at qk2;cases qk2
   | some x=>rw[hx] at qk2;cases qk2;exact⟨x,zth hx,rfl⟩
  subst hkv
  refine⟨kd,_,_,_,rfl,rfl,zP.of M.kin,qk1,?_⟩
  have lm:((ps.map V.ref).length:Nat)=i+1:=by rw[ztc];exact lp
  have pm:(0:Int)<((ps.map V.ref).length:Nat):=by rw[lm];omega
  refine⟨_,rfl,1,rfl,_,rfl,c,1,2,rfl,by decide,by decide,by decide,fun d2 _ _=>?_⟩
  refine⟨_,rfl,md,_,rfl,.inl (zP.of M.mad),_,_,rfl,rfl,pm,_,_,rfl,rfl,?_⟩
  have a0:=ztV d2 (show((ps.map V.ref).length:Int)≠0 by omega)
  have a1:=ztR d2 pm
  obtain⟨q1,hq1,hq1'⟩:=Km (ps:=ps) (i:=-1-d2%((ps.map V.ref).length:Nat)) (by rw[lm] at a0 a1 ⊢;omega) (by rw[lm] at a0 a1 ⊢;omega)
  refine⟨md,_,_,_,rfl,rfl,zP.of M.mad,hq1',?_⟩
  refine⟨_,rfl,_,rfl,c,2,60,rfl,by decide,by decide,by decide,fun d3 _ _=>?_⟩
  refine⟨_,rfl,md,_,rfl,.inl (zP.of M.mad),_,_,rfl,rfl,pm,?_⟩
  have b0:=ztV d3 (show((ps.map V.ref).length:Int)≠0 by omega)
  have b1:=ztR d3 pm
  obtain⟨q2,hq2,hq2'⟩:=Km (ps:=ps) (i:=d3%((ps.map V.ref).length:Nat)) (by rw[lm] at b0 b1 ⊢;omega) (by rw[lm] at b0 b1 ⊢;omega)
  refine⟨md,_,_,_,rfl,rfl,zP.of M.mad,hq2',?_⟩
  refine⟨_,rfl,_,rfl,c,3,40320,rfl,by decide,by decide,by decide,fun d4 _ _=>?_⟩
  obtain⟨x,hx,hx'⟩:=Ji o0 d4
  refine⟨_,rfl,ol,_,rfl,.inl hO2,_,_,rfl,rfl,pl,ol,_,_,.str x,rfl,rfl,hO2,hx',?_⟩
  obtain⟨s1,s1i,s1o,s1d⟩:=M.all q1 hq1
  obtain⟨s2,s2i,s2o,s2d⟩:=M.all q2 hq2
  have big:ps.length<sizeLine:=Nat.lt_of_le_of_lt (show ps.length<=100 by omega) (by decide)
  have zgt:(ps.map V.ref).length<sizeLine:=by rw[ztc];exact big
  have mdu:∀(p:Addr) (o:HO),H' p=none->(upd H' p o) md=some (.lst (ps.map V.ref)):=fun p o hp=>by rw[zG (zA M.mad hp)];exact M.mad
  have fin:∀(p:Addr) (xs:List V) (s':Sn),H' p=none->Qo (upd H' p (.tup xs)) s' p->s'.PX os->s'.depth<=i+1+1 ->
    ∃(ps':List Addr) (f1 f2 f3 f4 f5 f6:Option V),Made H (upd (upd H' p (.tup xs)) md (.lst (ps.map V.ref++[.ref p]))) os md kd ps' (i+1+1)/\ps'.length=i+1+1 /\
     [some (.ref sc),some (.int t),some (.int m),some (.ref ol),some (.ref kd),some (.ref md),some (.int (1+(i:Nat))),some (.int c),some (.str kind),some (.ref q1),some (.ref q2),some (.str x)]=[some (.ref sc),some (.int t),some (.int m),some (.ref ol),some (.ref kd),some (.ref md),f1,f2,f3,f4,f5,f6]:=fun p xs s' hp hs ho hd=>by
   have:=M.push f0 hp hs ho hd nk
   rw[ztq] at this
   exact⟨ps++[p],_,_,_,_,_,_,this,by simp[lp],rfl⟩
  refine⟨_,rfl,rfl,_,rfl,yc (fun c1=>?_) (fun c1=>?_)⟩
  ·have ek:kind="yes" := by have:=of_decide_eq_true c1;cases this;rfl
   subst ek
   refine Wh ⟨_,rfl,.inl ⟨rfl,_,zP.of M.mad⟩,_,rfl,by show 1<=sizeLine;decide,fun p hp=>⟨md,_,_,rfl,rfl,mdu p _ hp,zgt,?_⟩⟩
   exact fin p _ (.c0 true) hp zf trivial (by show 1<=_;omega)
  have n1:kind ≠ "yes" := fun e=>c1 (decide_eq_true (by rw[e]))
  refine⟨_,rfl,rfl,_,rfl,yc (fun c2=>?_) (fun c2=>?_)⟩
  ·have ek:kind="no" := by have:=of_decide_eq_true c2;cases this;rfl
   subst ek
   refine⟨_,rfl,.inl ⟨rfl,_,zP.of M.mad⟩,_,rfl,by show 1<=sizeLine;decide,fun p hp=>⟨md,_,_,rfl,rfl,mdu p _ hp,zgt,?_⟩⟩
   exact fin p _ (.c0 false) hp zf trivial (by show 1<=_;omega)
  have n2:kind ≠ "no" := fun e=>c2 (decide_eq_true (by rw[e]))
  refine⟨_,rfl,rfl,_,rfl,yc (fun c3=>?_) (fun c3=>?_)⟩
  ·have ek:kind="mark" := by have:=of_decide_eq_true c3;cases this;rfl
   subst ek
   refine⟨_,rfl,.inl ⟨rfl,_,zP.of M.mad⟩,_,rfl,by show 2<=sizeLine;decide,fun p hp=>⟨md,_,_,rfl,rfl,mdu p _ hp,zgt,?_⟩⟩
   exact fin p _ (.mk x) hp zf hx (by show 1<=_;omega)
  have n3:kind ≠ "mark" := fun e=>c3 (decide_eq_true (by rw[e]))
  refine⟨_,rfl,rfl,_,rfl,yc (fun c4=>?_) (fun c4=>?_)⟩
  ·have ek:kind="not" := by have:=of_decide_eq_true c4;cases this;rfl
   subst ek
   refine⟨_,rfl,.inl ⟨rfl,_,zP.of M.mad⟩,_,rfl,by show 2<=sizeLine;decide,fun p hp=>⟨md,_,_,rfl,rfl,mdu p _ hp,zgt,?_⟩⟩
   exact fin p _ (.nt s1) hp ⟨q1,zf,s1i.mono (xr.new hp _)⟩ s1o (by show 1+s1.depth<=_;omega)
  have n4:kind ≠ "not" := fun e=>c4 (decide_eq_true (by rw[e]))
  refine⟨_,rfl,rfl,_,rfl,yc (fun c5=>?_) (fun c5=>?_)⟩
  ·have ek:kind="some" := by have:=of_decide_eq_true c5;cases this;rfl
   subst ek
   refine Wh ⟨_,rfl,.inl ⟨rfl,_,zP.of M.mad⟩,_,rfl,_,rfl,_,rfl,by show 3<=sizeLine;decide,fun p hp=>⟨md,_,_,rfl,rfl,mdu p _ hp,zgt,?_⟩⟩
   exact fin p _ (.q1 true x s1) hp ⟨q1,zf,s1i.mono (xr.new hp _)⟩ ⟨hx,s1o⟩ (by show 1+s1.depth<=_;omega)
  have n5:kind ≠ "some" := fun e=>c5 (decide_eq_true (by rw[e]))
  refine⟨_,rfl,rfl,_,rfl,yc (fun c6=>?_) (fun c6=>?_)⟩
  ·have ek:kind="each" := by have:=of_decide_eq_true c6;cases this;rfl
   subst ek
   refine⟨_,rfl,.inl ⟨rfl,_,zP.of M.mad⟩,_,rfl,_,rfl,_,rfl,by show 3<=sizeLine;decide,fun p hp=>⟨md,_,_,rfl,rfl,mdu p _ hp,zgt,?_⟩⟩
   exact fin p _ (.q1 false x s1) hp ⟨q1,zf,s1i.mono (xr.new hp _)⟩ ⟨hx,s1o⟩ (by show 1+s1.depth<=_;omega)
  have n6:kind ≠ "each" := fun e=>c6 (decide_eq_true (by rw[e]))
  obtain⟨o,ho⟩:∃o:Fin 4,kind=w2 o:=by
   have:kind∈([Str.ofString "mark", Str.ofString "mark", Str.ofString "not", Str.ofString "and", Str.ofString "or", Str.ofString "either", Str.ofString "if", Str.ofString "and", Str.ofString "or", Str.ofString "some", Str.ofString "each", Str.ofString "yes", Str.ofString "no", Str.ofString "mark"]:List Str):=hkm
   simp only[List.mem_cons,ztD,or_false] at this
   rcases this with h | h | h | h | h | h | h | h | h | h | h | h | h | h<;>first | exact absurd h n1 | exact absurd h n2 | exact absurd h n3 | exact absurd h n4 | exact absurd h n5 | exact absurd h n6 | exact⟨0,h⟩ | exact⟨1,h⟩ | exact⟨2,h⟩ | exact⟨3,h⟩
  subst ho
  refine⟨_,rfl,.inl ⟨rfl,_,zP.of M.mad⟩,_,rfl,_,rfl,_,rfl,by show 3<=sizeLine;decide,fun p hp=>⟨md,_,_,rfl,rfl,mdu p _ hp,zgt,?_⟩⟩
  exact fin p _ (.b2 o s2 s1) hp ⟨q2,q1,zf,s2i.mono (xr.new hp _),s1i.mono (xr.new hp _)⟩ ⟨s2o,s1o⟩ (by show 1+max s2.depth s1.depth<=_;omega)
 ·rintro σ H' ⟨ps,f1,f2,f3,f4,f5,f6,M,lp,rfl⟩
  obtain⟨p,hp,hp'⟩:=Km (ps:=ps) (i:=-1) (by omega) (by omega)
  obtain⟨s',z1,z2,z3⟩:=M.all p hp
  have e:((m:Int)-1).toNat+1=m:=by omega
  rw[e] at z3
  exact⟨_,rfl,1,rfl,md,_,-1,_,rfl,rfl,zP.of M.mad,hp',q p H' s' M.old z1 z2 z3⟩
theorem zgu (T:Txt P w K mg a):zF P w K mg base zY (k+1) a.Uj a.Uk X4 V5:=by
 refine T.K3.F.ok zgo (fun vs H Q E h=>?_) (fun cdv A outer s H vs Q E hr h=>?_)
 ·obtain⟨x,rfl,_⟩:=h
  rfl
 obtain⟨x,rfl,q⟩:=h
 refine⟨_,(zq (zL (xK Qh (pv 0) (W9 (v:=.ref a.zar) rfl T.zld rfl) (by with_unfolding_all rfl)))),?_⟩
 refine⟨_,rfl,a.zar,uw.map V.str,rfl,.inr (T.zle H),rfl,Yu _,?_⟩
 show Q (.bl (inV (.str x) (uw.map V.str))) H
 rw[Mw]
 exact q
theorem zfg (T:Txt P w K mg a)(K4:zF P w K mg base zY k a.Uj a.Uk X4 V5):zF P w K mg base zY (k+1) a.Nx a.Nz U8 (Kq K):=by
 refine T.zbn.F.ok zeX (fun vs H Q E h=>?_) (fun cdv A outer s H vs Q E hr h=>?_)
 ·obtain⟨l,os,rfl,_⟩:=h
  rfl
 obtain⟨l,os,rfl,hq,h100,q⟩:=h
 refine⟨_,(zq (zL (LR (xK Yq (zB zy rfl T.yu zX (za (pv 0) zc)) zm (zM _)) (LR (zB (vW rfl) rfl T.T8 Xm (za (vg (wV:=zu Nq) (js:=[]) rfl (by show uX _ _ "letter" [];exact Ku (by decide +kernel)) rfl (yF (pv 0)) (by show ∀j∈([]:List Nat),j<1;decide) (fun cl C s₂ H₂ fp=>(zp K4 hr T.K3 (za (pv 0) zc)))) zc)) (zaw (xK yH (zB call_len_set' rfl T.yu zX (za (wF (ziP rfl) rfl T.zn2 zmn (za (pv 0) zc)) zc)) (zB zy rfl T.yu zX (za (pv 0) zc)) (zM _))))))),?_⟩
 have hlen:(os.map V.str).length=os.length:=ztc _
 refine⟨_,rfl,l,_,rfl,.inl hq,_,_,rfl,rfl,_,rfl,yc (fun c=>?_) (fun c=>?_)⟩
 ·have c':0<os.length:=by have:=of_decide_eq_true c;rw[hlen] at this;omega
  refine⟨_,rfl,l,rfl,⟨_,hq⟩,zdc (fun x v=>v=(match x with | .str y=>.bl (decide (y∈uw)) | _=>.non)) hq (by rw[hlen];exact ztv (zO (by omega))) ?_ (ziZ Jk) ?_⟩
  ·intro i x H' hx g
   rw[zte] at hx
   cases ho:os[i]? with
   | none=>rw[ho] at hx;cases hx
   | some y =>
    rw[ho] at hx
    cases hx
    exact⟨_,rfl,y,rfl,rfl,g⟩
  ·intro ys H' p hr' g hp
   have e:=Ko (f:=fun x=>match x with | .str y=>.bl (decide (y∈uw)) | _=>.non) hr'
   rw[ztO] at e
   have e2:ys=(os.map fun y=>decide (y∈uw)).map V.bl:=by rw[e,ztO];rfl
   subst e2
   have g1:=Same.new hp (.lst ((os.map fun y=>decide (y∈uw)).map V.bl))
   refine⟨p,_,rfl,zP.of zf,_,rfl,yc (fun c2=>?_) (fun c2=>?_)⟩
   ·have hq2:=(g.trans g1).seq hq
    refine⟨_,rfl,l,os,rfl,hq2,h100,fun z hz=>⟨z,_,rfl,zf,?_⟩⟩
    have g2:=Same.new hz (zkq P w z (dd os).length)
    refine⟨_,rfl,l,_,rfl,.inl (g2.seq hq2),rfl,?_⟩
    have e3:decide (V.int ((dd os).length:Nat)=V.int ((os.map V.str).length:Nat))=zde os:=by
     unfold zde
     have c2':os.all (fun x=>decide (x∈uw))=true:=by rw[List.all_map] at c2;exact c2
     rw[decide_eq_true c',c2',hlen]
     by_cases nd:os.Nodup
     ·rw[decide_eq_true nd,ziL nd];simp
     ·have:=zmm nd
      rw[decide_eq_false nd,decide_eq_false (fun z=>by injection z with z;omega)];rfl
    rw[e3]
    exact q _ ((g.trans g1).trans g2)
   ·have e4:zde os=false:=by
     unfold zde
     have c2':os.all (fun x=>decide (x∈uw))=false:=by
      rw[List.all_map] at c2
      exact Bool.eq_false_iff.mpr c2
     rw[c2',Bool.false_and,Bool.and_false]
    rw[<-e4]
    exact q _ (g.trans g1)
 ·have e4:zde os=false:=by
   unfold zde
   rw[decide_eq_false (fun z=>c (decide_eq_true (by rw[hlen];omega))),Bool.false_and]
  rw[<-e4]
  exact q _ (Same.refl _)
theorem zbT (T:Txt P w K mg a):zF P w K mg base zY (k+1) a.Z8 a.Z9 u6 Xd:=by
 refine T.Tv.F.ok zbN (fun vs H Q E h=>?_) (fun cdv A outer s H vs Q E hr h=>?_)
 ·obtain⟨p,x,m,n,rest,rfl,_⟩:=h
  rfl
 obtain⟨p,x,m,n,rest,rfl,hp,hm,hl,q⟩:=h
 refine⟨_,(zq (zL (wK ziB (pv 0) (vL zm) (vL (zK xH zm (z8 vd (z8 (zc3 T.W4.d) (W9 (v:=.ref a.Ul) rfl T.Lq rfl) (z8 vd (pv 0) zm (fun _ _=>rfl)) (fun _ _=>rfl)) zm (fun _ _=>rfl))))))),?_⟩
 obtain⟨pt,hv,hpt⟩:=T.W4.y x m n hm
 refine⟨_,rfl,1,rfl,_,rfl,p,_,0,_,rfl,rfl,wY.of hp,at0,x,.ref pt,.ref pt,rfl,rfl,hv,rfl,pt,_,0,_,rfl,rfl,hpt H,at0,1,(m:Int),rfl,rfl,_,rfl,p,_,rfl,wY.of hp,zaP (by decide),fun z hz=>?_⟩
 rw[zi0 hl]
 exact q z hz
theorem zfh (T:Txt P w K mg a):zF P w K mg base zY (k+1) a.Zq a.Zr uL Yv:=by
 refine T.Tw.F.ok zeY (fun vs H Q E h=>?_) (fun cdv A outer s H vs Q E hr h=>?_)
 ·obtain⟨p,x,m,n,rest,rfl,_⟩:=h
  rfl
 obtain⟨p,x,m,n,rest,rfl,hp,hm,hl,q⟩:=h
 refine⟨_,(zq (zL (wK ziB (pv 0) (vL (zK xH zm (z8 vd (z8 (zc3 T.W4.d) (W9 (v:=.ref a.Ul) rfl T.Lq rfl) (z8 vd (pv 0) zm (fun _ _=>rfl)) (fun _ _=>rfl)) zm (fun _ _=>rfl)))) uV))),?_⟩
 obtain⟨pt,hv,hpt⟩:=T.W4.y x m n hm
 refine⟨_,rfl,_,rfl,p,_,0,_,rfl,rfl,wY.of hp,at0,x,.ref pt,.ref pt,rfl,rfl,hv,rfl,pt,_,0,_,rfl,rfl,hpt H,at0,1,(m:Int),rfl,rfl,_,rfl,p,_,rfl,wY.of hp,zaP (by omega),fun z hz=>?_⟩
 rw[zi1 hl]
 exact q z hz
theorem J0 (T:Txt P w K mg a)(uT:zF P w K mg base zY k a.Zq a.Zr uL Yv):zF P w K mg base zY (k+1) a.Yb a.Yc uM (Xz K):=by
 refine T.WT.F.ok Xp (fun vs H Q E h=>?_) (fun cdv A outer s H vs Q E hr h=>?_)
 ·obtain⟨l,ss,ps,rfl,_⟩:=h
  rfl
 obtain⟨l,ss,ps,rfl,hl,hp,hz,q⟩:=h
 refine⟨_,(zj (zH 1 Xp.nd (yM zc))
   (zj (xX PassesOwn.never rfl (yF (pv 0)) (yw (i:=2) Xp.nd rfl (Or.inl rfl)) (zq (yh (vf PySem.F.plainAttrs_list PySem.F.slot_list_extend PySem.F.type_list_extend zaJ (pv 1) (za (zp uT hr T.Tw (za (pv 2) zc)) zc)))))
   (zq (zL (pv 1))))),?_⟩
 have pl:=yU hp
 refine⟨by show 0<=sizeLine;decide,fun f hf=>?_⟩
 have g0:=Same.new hf (.lst [])
 refine⟨_,rfl,l,rfl,⟨_,g0.seq hl⟩,?_⟩
 refine vV (xs:=ps.map V.ref) (fun i σ H'=>∃(qs:List Addr) (f1:Option V),Same H H'/\H' f=some (.lst (qs.map V.ref))/\Paired (Qo H') ((ss.take i).flatMap Sn.parts) qs/\qs.length<=2*i/\i<=ss.length/\σ=[some (.ref l),some (.ref f),f1])
  ⟨[],_,g0,zf,.nil,by simp,ztz _,rfl⟩ ?_ ?_ ?_
 ·rintro i σ H' _ ⟨qs,f1,g,_⟩
  exact g.seq hl
 ·rintro i x σ H' hx ⟨qs,f1,g,hf',hqs,lq,li,rfl⟩
  rw[zte] at hx
  cases ho:ps[i]? with
  | none=>rw[ho] at hx;cases hx
  | some p =>
   rw[ho] at hx
   cases hx
   obtain⟨sn,hsn,JF⟩:=Jj hp ho
   have hlt:=(ztf.mp hsn).1
   obtain⟨zs,c1,c2,c3,c4,c5⟩:=Qq (JF.mono (xr.of g))
   have lz:=yU c2
   have lp2:=Sn.Mx sn
   refine⟨_,rfl,.inl ⟨rfl,_,zP.of hf'⟩,_,rfl,p,sn.word,sn.letters.length,sn.parts.length,_,rfl,c1,ZR sn,c3,fun b hb=>?_⟩
   rw[c5]
   have nfb:f≠b:=zA hf' hb
   have hf2:(upd H' b (.tup (zs.map V.ref))) f=some (.lst (qs.map V.ref)):=by rw[zG nfb];exact hf'
   refine⟨f,b,qs.map V.ref,zs.map V.ref,rfl,rfl,hf2,?_,?_,?_⟩
   ·exact wY.of zf
   ·rw[ztc,ztc]
    exact ztv (zO (by omega))
   ·refine⟨qs++zs,_,(g.trans (Same.new hb _)).over hf _,by rw[zf,ztq],?_,?_,hlt,rfl⟩
    ·rw[yj hsn,List.flatMap_append,List.flatMap_singleton]
     have t1:xr H' (upd (upd H' b (.tup (zs.map V.ref))) f (.lst (qs.map V.ref++zs.map V.ref))):=(xr.new hb _).trans (xr.lst hf2 _)
     exact Xn (yO (fun _ _ z=>z.mono t1) hqs) (yO (fun _ _ z=>z.mono t1) c2)
    ·rw[ztk];omega
 ·rintro σ H' ⟨qs,f1,g,hf',hqs,lq,li,rfl⟩
  rw[ztc,<-pl,ztF] at hqs
  exact⟨_,rfl,q f H' qs g hf hf' hqs⟩
theorem zdW (T:Txt P w K mg a)(K4:zF P w K mg base zY k a.Uj a.Uk X4 V5)(TJ:zF P w K mg base zY k a.Z8 a.Z9 u6 Xd)(uT:zF P w K mg base zY k a.Zq a.Zr uL Yv) :
  zF P w K mg base zY (k+1) a.RM a.RN Vg Mz:=by
 refine T.Jz.F.ok M8 (fun vs H Q E h=>?_) (fun cdv A outer s H vs Q E hr h=>?_)
 ·obtain⟨p,s,rfl,_⟩:=h
  rfl
 obtain⟨p,sn,rfl,JF,hle,q⟩:=h
 refine⟨_,(zj (yq (PW.pt (Q7 (zJ yH (zB zy rfl T.yu zX (za (pv 0) zc)) zm (zM _)) (Q7 (ZJ (xU (zB Jf rfl T.TF Vs (za (z8 vd (pv 0) zm (fun _ _=>rfl)) (za (zcQ (v:=.ty "str") rfl T.zhx zc6 rfl) zc))) (fun _=>rfl))) (Us (zJ (zbJ T.W4.d) (z8 vd (pv 0) zm (fun _ _=>rfl)) (W9 (v:=.ref a.Ul) rfl T.Lq rfl) (by with_unfolding_all rfl)))))) (zq (zL ZF)) zT)
   (zj (zH 1 M8.nd (z8 (zc3 T.W4.d) (W9 (v:=.ref a.Ul) rfl T.Lq rfl) (z8 vd (pv 0) zm (fun _ _=>rfl)) (fun _ _=>rfl)))
   (zj (yq (zJ TV (zB zy rfl T.yu zX (za (pv 0) zc)) (zK xH (zK xH zm (z8 vd (pv 1) zm (fun _ _=>rfl))) (z8 vd (pv 1) zm (fun _ _=>rfl))) (zM _)) (zq (zL ZF)) zT)
   (zj (yq (ZJ (xU (zB (vW rfl) rfl T.T8 Xm (za (vg (wV:=zu Vf) (js:=[]) rfl (by show uX _ _ "letter" [];exact Ku (by decide +kernel)) rfl (zcT (zp TJ hr T.Tv (za (pv 0) zc))) (by show ∀j∈([]:List Nat),j<2;decide) (fun cl C s₂ H₂ fp=>(zp K4 hr T.K3 (za (pv 0) zc)))) zc)) (fun _=>rfl))) (zq (zL ZF)) zT)
   (zq (zL (zB (vW rfl) rfl T.T8 Xm (za (vg (wV:=zu Vf) (js:=[]) rfl (by show uX _ _ "part" [];exact Ku (by decide +kernel)) rfl (zcT (zp uT hr T.Tw (za (pv 0) zc))) (by show ∀j∈([]:List Nat),j<2;decide) (fun cl C s₂ H₂ fp=>(zB (Mv (K:=K) rfl) rfl T.TF Vs (za (pv 0) (za (zcQ (v:=.ty "tuple") rfl T.zlh ziS rfl) zc))))) zc)))))))),?_⟩
 obtain⟨zs,c1,c2,c3,c4,c5⟩:=Qq JF
 have lz:=yU c2
 obtain⟨pt,hv,hpt⟩:=T.W4.y _ _ _ (ZR sn)
 have lp2:=Sn.Mx sn
 have ll1:=Sn.zaQ sn
 refine⟨_,rfl,p,_,rfl,.inr (wY.of c1),rfl,_,rfl,yc (fun c=>?_) (fun _=>?_)⟩
 ·exfalso
  have:=of_decide_eq_true c
  injection this with this
  rw[zto] at this
  omega
 refine⟨_,rfl,p,_,0,_,rfl,rfl,wY.of c1,at0,_,_,_,true,rfl,.str sn.word,rfl,_,rfl,yr ?_⟩
 refine⟨_,rfl,p,_,0,_,rfl,rfl,wY.of c1,at0,sn.word,rfl,rfl,_,rfl,?_⟩
 rw[hv]
 refine yr ?_
 refine⟨_,rfl,p,_,0,_,rfl,rfl,wY.of c1,at0,sn.word,.ref pt,.ref pt,rfl,rfl,hv,rfl,?_⟩
 refine⟨_,rfl,p,_,rfl,.inr (wY.of c1),_,rfl,pt,_,0,_,rfl,rfl,hpt H,at0,1,_,rfl,rfl,_,rfl,pt,_,1,_,rfl,rfl,hpt H,at1,_,_,rfl,rfl,rfl,_,rfl,yc (fun c=>?_) (fun _=>?_)⟩
 ·exfalso
  have z:V.int ((VC sn zs).length:Nat)=V.int (1+((sn.letters.length:Nat):Int)+((sn.parts.length:Nat):Int)):=by
   congr 1
   show(((V.str sn.word::(sn.letters.map V.str++zs.map V.ref)).length:Nat):Int)=_
   rw[zto,c3]
   omega
  have c':(!decide (V.int ((VC sn zs).length:Nat)=V.int (1+((sn.letters.length:Nat):Int)+((sn.parts.length:Nat):Int))))=true:=c
  rw[decide_eq_true z] at c'
  cases c'
 refine⟨_,rfl,p,sn.word,sn.letters.length,sn.parts.length,_,rfl,c1,ZR sn,c3,fun b hb=>?_⟩
 rw[c4]
 have g1:=Same.new hb (.tup (sn.letters.map V.str))
 refine⟨b,rfl,⟨_,wY.of zf⟩,zg0 (xs:=sn.letters.map V.str) (fun _ v=>v=.bl true) (wY.of zf) (by rw[ztc];exact ztv (zO (by omega))) ?_ (ziZ Jk) ?_⟩
 ·intro i x H' hx g
  rw[zte] at hx
  cases ho:sn.letters[i]? with
  | none=>rw[ho] at hx;cases hx
  | some y =>
   rw[ho] at hx
   cases hx
   refine⟨_,rfl,y,rfl,?_,g⟩
   rw[decide_eq_true (hle y (zth ho))]
 intro ys H' p2 hr' g hp2
 have e:=Ko (f:=fun _=>.bl true) hr'
 have e2:ys=(sn.letters.map fun _=>true).map V.bl:=by rw[e,ztO,ztO];rfl
 subst e2
 have g2:=Same.new hp2 (.lst ((sn.letters.map fun _=>true).map V.bl))
 have ea:(sn.letters.map fun _=>true).all id=true:=by rw[List.all_map,ztG];exact fun _ _=>rfl
 refine⟨p2,_,rfl,zP.of zf,_,rfl,?_⟩
 rw[ea]
 refine yr ?_
 have gg:=(g1.trans g).trans g2
 have c1':=gg _ _ c1
 refine⟨_,rfl,p,sn.word,sn.letters.length,sn.parts.length,_,rfl,c1',ZR sn,c3,fun b3 hb3=>?_⟩
 rw[c5]
 have g3:=Same.new hb3 (.tup (zs.map V.ref))
 refine⟨b3,rfl,⟨_,wY.of zf⟩,zg0 (xs:=zs.map V.ref) (fun _ v=>v=.bl true) (wY.of zf) (by rw[ztc];exact ztv (zO (by omega))) ?_ ?_ ?_⟩
 ·intro i x H4 hx g4
  rw[zte] at hx
  cases ho:zs[i]? with
  | none=>rw[ho] at hx;cases hx
  | some y =>
   rw[ho] at hx
   cases hx
   obtain⟨sy,_,iy⟩:=Jj c2 ho
   obtain⟨ws,d1,_⟩:=Qq iy
   have d1':=((gg.trans g3).trans g4) _ _ d1
   exact⟨_,rfl,_,_,_,true,rfl,.tup d1',rfl,rfl,g4⟩
 ·rintro σ' H' Q1 Q2 hQ ⟨v,e,x,T',t,b',h1,h2,h3,h4⟩
  exact⟨v,e,x,T',t,b',h1,h2,h3,hQ _ _ h4⟩
 ·intro ys H4 p4 hr4 g4 hp4
  have e:=Ko (f:=fun _=>.bl true) hr4
  have e2:ys=(zs.map fun _=>true).map V.bl:=by rw[e,ztO,ztO];rfl
  subst e2
  have ea:(zs.map fun _=>true).all id=true:=by rw[List.all_map,ztG];exact fun _ _=>rfl
  refine⟨p4,_,rfl,zP.of zf,?_⟩
  rw[ea]
  exact q _ (((gg.trans g3).trans g4).trans (Same.new hp4 _))
theorem zbp (T:Txt P w K mg a)(zfi:zF P w K mg base zY k a.RM a.RN Vg Mz)(W5:zF P w K mg base zY k a.Yb a.Yc uM (Xz K)) :
  zF P w K mg base zY (k+1) a.VB a.VD YS zdf:=by
 refine T.Px.F.ok wA (fun vs H Q E h=>?_) (fun cdv A outer s H vs Q E hr h=>?_)
 ·obtain⟨p,s,rfl,_⟩:=h
  rfl
 obtain⟨p,sn,rfl,JF,hin,hc,hd,q⟩:=h
 refine⟨_,(zj (zH 1 wA.nd (yM (za (pv 0) zc)))
   (zj (zH 2 wA.nd zm)
   (zj (zH 3 wA.nd zm)
   (zj (zay PassesOwn.never (zJ Yq (zB zy rfl T.yu zX (za (pv 1) zc)) zm (zM _)) (zj (zfC (i:=2) wA.nd rfl (Or.inl rfl) zm zcU)
   (zj (zfC (i:=3) wA.nd rfl (Or.inl rfl) (zB zy rfl T.yu zX (za (pv 1) zc)) zcU)
   (zj (yq (PW.pt (Q7 (zJ Yq (pv 2) (W9 (v:=.int 24) rfl T.zfc ⟨_,rfl⟩) (zM _)) (Us (zJ Yq (pv 3) (W9 (v:=.int 200) rfl T.zbS ⟨_,rfl⟩) (zM _))))) (zq (zL ZF)) zT)
   (zj (yq (ZJ (xU (zB (vW rfl) rfl T.T8 Xm (za (vg (wV:=zu Vw) (js:=[]) rfl (by show uX _ _ "part" [];exact Ku (by decide +kernel)) rfl (yF (pv 1)) (by show ∀j∈([]:List Nat),j<4;decide) (fun cl C s₂ H₂ fp=>(zp zfi hr T.Jz (za (pv 0) zc)))) zc)) (fun _=>rfl))) (zq (zL ZF)) zT)
   (zq (zH 1 wA.nd (zp W5 hr T.WT (za (pv 1) zc)))))))))
   (zq (zL ZF)))))),?_⟩
 refine⟨_,rfl,by show 1<=sizeLine;decide,fun l0 hl0=>?_⟩
 have g0:=Same.new hl0 (.lst [.ref p])
 refine⟨fun m σ H'=>∃(ss:List Sn) (ps:List Addr) (l:Addr) (d t:Nat),m=cnt ss/\Same H H'/\H' l=some (.lst (ps.map V.ref))/\Paired (Qo H') ss ps/\(∀u∈ss,u.PX uw/\d+u.depth<=24)/\t+cnt ss<=200/\σ=[some (.ref p),some (.ref l),some (.int d),some (.int t)],
  ⟨_,[sn],[p],l0,0,0,rfl,g0,zf,.cons (JF.mono (xr.of g0)) .nil,?_,?_,rfl⟩,?_⟩
 ·intro u hu
  have e:u=sn:=by simpa using hu
  subst e
  exact⟨hin,by omega⟩
 ·show 0+(sn.count+0)<=200
  omega
 rintro m σ H' ⟨ss,ps,l,d,t,rfl,g,hl,hp,hi,ht,rfl⟩
 have lp:=yU hp
 have le:(ps.map V.ref).length=ss.length:=by rw[ztc];exact lp.symm
 have cl:=zg1 ss
 refine⟨_,rfl,l,_,rfl,.inl (zP.of hl),_,_,rfl,rfl,_,rfl,yc (fun c=>?_) (fun c=>?_)⟩
 ·have c':0<ss.length:=by have:=of_decide_eq_true c;rw[le] at this;omega
  have hd1:d+1<=24:=by
   have hm:ss[0]∈ss:=ztT c'
   have:=(hi _ hm).2
   have:=Sn.Qk ss[0]
   omega
  refine⟨_,fun σ' H2 h=>h,?_⟩
  refine⟨_,rfl,(d:Int),1,rfl,rfl,?_⟩
  refine⟨_,rfl,_,rfl,l,_,rfl,.inl (zP.of hl),(t:Int),_,rfl,rfl,?_⟩
  refine⟨_,rfl,_,_,rfl,rfl,_,rfl,yc (fun c2=>?_) (fun _=>?_)⟩
  ·exfalso
   have:=of_decide_eq_true c2
   omega
  refine⟨_,rfl,_,_,rfl,rfl,_,rfl,yc (fun c2=>?_) (fun _=>?_)⟩
  ·exfalso
   have:=of_decide_eq_true c2
   rw[le] at this
   omega
  refine⟨_,rfl,l,rfl,⟨_,zP.of hl⟩,zdc (fun _ v=>v=.bl true) (zP.of hl) (by rw[le];exact ztv (zO (by omega))) ?_ (ziZ zer) ?_⟩
  ·intro i x H2 hx g2
   rw[zte] at hx
   cases ho:ps[i]? with
   | none=>rw[ho] at hx;cases hx
   | some y =>
    rw[ho] at hx
    cases hx
    obtain⟨sy,hsy,iy⟩:=Jj hp ho
    exact⟨_,rfl,y,sy,rfl,iy.mono (xr.of g2),Sn.zeo sy (hi sy (zth hsy)).1,fun H3 g3=>⟨rfl,g2.trans g3⟩⟩
  intro ys H2 p2 hr' g2 hp2
  have e:=Ko (f:=fun _=>.bl true) hr'
  have e2:ys=(ps.map fun _=>true).map V.bl:=by rw[e,ztO,ztO];rfl
  subst e2
  have g3:=Same.new hp2 (.lst ((ps.map fun _=>true).map V.bl))
  have ea:(ps.map fun _=>true).all id=true:=by rw[List.all_map,ztG];exact fun _ _=>rfl
  refine⟨p2,_,rfl,zP.of zf,_,rfl,?_⟩
  rw[ea]
  refine yr ?_
  have gg:=g2.trans g3
  refine⟨_,rfl,l,ss,ps,rfl,gg.seq (zP.of hl),yO (fun _ _ z=>z.mono (xr.of gg)) hp,by omega,fun l' H4 ps' g4 hn hl' hp'=>?_⟩
  have cp:=Qp ss
  refine⟨cnt (ss.flatMap Sn.parts),by omega,ss.flatMap Sn.parts,ps',l',d+1,t+(ps.map V.ref).length,rfl,(g.trans gg).trans g4,hl',hp',?_,by omega,rfl⟩
  intro u hu
  obtain⟨s',hs',hu'⟩:=Kp.mp hu
  obtain⟨i1,i2⟩:=hi s' hs'
  have:=Sn.Sx s' u hu'
  exact⟨Sn.zcj s' i1 u hu',by omega⟩
 ·exact q _ g
theorem K5 (T:Txt P w K mg a)(zgv:zF P w K mg base zY k a.Nx a.Nz U8 (Kq K)):zF P w K mg base zY (k+1) a.Xq a.Xr Zj (SM K):=by
 refine T.T6.F.ok KQ (fun vs H Q E h=>?_) (fun cdv A outer s H vs Q E hr h=>?_)
 ·obtain⟨l,os,rfl,_⟩:=h
  rfl
 obtain⟨l,os,rfl,hq,ho,q⟩:=h
 refine⟨_,(zq (yq (ZJ (xU (zp zgv hr T.zbn (za (pv 0) zc)) (fun _=>rfl))) (zq Ss) zT)),?_⟩
 refine⟨_,rfl,l,os,rfl,hq,zty ho.le (by decide),fun H' g=>⟨_,rfl,?_⟩⟩
 rw[zkB ho]
 exact yr (q H' g)
theorem Q6 (T:Txt P w K mg a)(zbU:zF P w K mg base zY k a.VB a.VD YS zdf):zF P w K mg base zY (k+1) a.Zt a.Zu vM Kr:=by
 refine T.WW.F.ok Q5 (fun vs H Q E h=>?_) (fun cdv A outer s H vs Q E hr h=>?_)
 ·obtain⟨p,s,rfl,_⟩:=h
  rfl
 obtain⟨p,sn,rfl,h1,h2,h3,h4,q⟩:=h
 refine⟨_,(zq (yq (ZJ (xU (zp zbU hr T.Px (za (pv 0) zc)) (fun _=>rfl))) (zq Ss) zT)),?_⟩
 exact⟨_,rfl,p,sn,rfl,h1,h2,h3,h4,fun H' g=>⟨_,rfl,yr (q H' g)⟩⟩
theorem zdX (T:Txt P w K mg a)(W5:zF P w K mg base zY k a.Yb a.Yc uM (Xz K)):zF P w K mg base zY (k+1) a.RP a.RQ Vi Nf:=by
 refine T.JB.F.ok XH (fun vs H Q E h=>?_) (fun cdv A outer s H vs Q E hr h=>?_)
 ·obtain⟨p,s,rfl,_⟩:=h
  rfl
 obtain⟨p,sn,rfl,JF,hc,q⟩:=h
 refine⟨_,(zj (zH 1 XH.nd (yM zc))
   (zj (zH 2 XH.nd (yM (za (pv 0) zc)))
   (zj (zay PassesOwn.never (zJ Yq (zB zy rfl T.yu zX (za (pv 2) zc)) zm (zM _)) (zj (yh (vf PySem.F.plainAttrs_list PySem.F.slot_list_extend PySem.F.type_list_extend Kh (pv 1) (za (pv 2) zc)))
   (zq (zH 2 XH.nd (zp W5 hr T.WT (za (pv 2) zc))))))
   (zq (zL (pv 1)))))),?_⟩
 refine⟨by show 0<=sizeLine;decide,fun f hf=>?_⟩
 refine⟨_,rfl,by show 1<=sizeLine;decide,fun l0 hl0=>?_⟩
 have g0:=(Same.new hf (.lst [])).trans (Same.new hl0 (.lst [.ref p]))
 have nfl:f≠l0:=zA zf hl0
 refine⟨fun m σ H'=>∃(ts ss:List Sn) (qs ps:List Addr) (l:Addr),m=cnt ss/\Same H H'/\H' f=some (.lst (qs.map V.ref))/\H' l=some (.lst (ps.map V.ref))/\f≠l/\Paired (Qo H') ts qs/\Paired (Qo H') ss ps/\ts.length+cnt ss=sn.count /\
   (∀x,((∃t∈ts,x∈t.letters)\/∃u∈ss,x∈u.all)↔x∈sn.all)/\σ=[some (.ref p),some (.ref f),some (.ref l)],
  ⟨_,[],[sn],[],[p],l0,rfl,g0,by rw[zG nfl];exact zf,zf,nfl,.nil,.cons (JF.mono (xr.of g0)) .nil,?_,?_,rfl⟩,?_⟩
 ·show 0+(sn.count+0)=sn.count
  omega
 ·intro x
  simp
 rintro m σ H' ⟨ts,ss,qs,ps,l,rfl,g,hf',hl,nfl,hts,hss,hcn,hle,rfl⟩
 have lt:=yU hts
 have lp:=yU hss
 have cl:=zg1 ss
 have le:(ps.map V.ref).length=ss.length:=by rw[ztc];exact lp.symm
 refine⟨_,rfl,l,_,rfl,.inl (zP.of hl),_,_,rfl,rfl,_,rfl,yc (fun c=>?_) (fun c=>?_)⟩
 ·have c':0<ss.length:=by have:=of_decide_eq_true c;rw[le] at this;omega
  refine⟨_,fun σ' H2 h=>h,?_⟩
  refine⟨_,rfl,.inl ⟨rfl,_,zP.of hf'⟩,_,rfl,f,l,_,_,rfl,rfl,hf',hl,by rw[ztc,ztc];exact ztv (zO (by omega)),?_⟩
  have t1:xr H' (upd H' f (.lst (qs.map V.ref++ps.map V.ref))):=xr.lst hf' _
  have g1:Same H (upd H' f (.lst (qs.map V.ref++ps.map V.ref))):=g.over hf _
  have hl1:(upd H' f (.lst (qs.map V.ref++ps.map V.ref))) l=some (.lst (ps.map V.ref)):=by rw[zG (Ne.symm nfl)];exact hl
  refine⟨_,rfl,l,ss,ps,rfl,zP.of hl1,yO (fun _ _ z=>z.mono t1) hss,by omega,fun l' H3 ps' g3 hn hl' hp'=>?_⟩
  have cp:=Qp ss
  have t3:=t1.trans (xr.of g3)
  refine⟨cnt (ss.flatMap Sn.parts),by omega,ts++ss,ss.flatMap Sn.parts,qs++ps,ps',l',rfl,g1.trans g3,by rw[ztq];exact g3 _ _ zf,hl',zA zf hn,
   Xn (yO (fun _ _ z=>z.mono t3) hts) (yO (fun _ _ z=>z.mono t3) hss),hp',by rw[ztk];omega,fun x=>?_,rfl⟩
  rw[<-hle x]
  constructor
  ·rintro (⟨t,ht,hx⟩ | ⟨u,hu,hx⟩)
   ·rcases List.mem_append.mp ht with z | z
    ·exact .inl ⟨t,z,hx⟩
    ·exact .inr ⟨t,z,(Sn.zdd t x).mpr (.inl hx)⟩
   ·obtain⟨s',hs',hu'⟩:=Kp.mp hu
    exact .inr ⟨s',hs',(Sn.zdd s' x).mpr (.inr ⟨u,hu',hx⟩)⟩
  ·rintro (⟨t,ht,hx⟩ | ⟨u,hu,hx⟩)
   ·exact .inl ⟨t,List.mem_append_left _ ht,hx⟩
   ·rcases (Sn.zdd u x).mp hx with z | ⟨v,hv,z⟩
    ·exact .inl ⟨u,ztt _ hu,z⟩
    ·exact .inr ⟨v,Kp.mpr ⟨u,hu,hv⟩,z⟩
 ·have c':ss=[]:=by
   have:¬ 0<ss.length:=fun z=>c (decide_eq_true (by rw[le];omega))
   exact List.length_eq_zero_iff.mp (by omega)
  subst c'
  refine⟨_,rfl,q f H' ts qs g hf hf' hts ?_ fun x=>?_⟩
  ·have:cnt []=0:=rfl
   omega
  ·rw[<-hle x]
   constructor
   ·exact fun z=>.inl z
   ·rintro (z | ⟨u,hu,_⟩)
    ·exact z
    ·cases hu
theorem zbV (T:Txt P w K mg a)(zfj:zF P w K mg base zY k a.RP a.RQ Vi Nf)(TJ:zF P w K mg base zY k a.Z8 a.Z9 u6 Xd):zF P w K mg base zY (k+1) a.Tg a.Ti XJ SN:=by
 refine T.Lk.F.ok Vx (fun vs H Q E h=>?_) (fun cdv A outer s H vs Q E hr h=>?_)
 ·obtain⟨p,s,rfl,_⟩:=h
  rfl
 obtain⟨p,sn,rfl,JF,hc,q⟩:=h
 refine⟨_,(zj (zH 1 Vx.nd (yM zc))
   (zj (xX PassesOwn.never rfl (yF (zp zfj hr T.JB (za (pv 0) zc))) (yw (i:=2) Vx.nd rfl (Or.inl rfl)) (zq (yh (vf PySem.F.plainAttrs_list PySem.F.slot_list_extend PySem.F.type_list_extend zaJ (pv 1) (za (zp TJ hr T.Tv (za (pv 2) zc)) zc)))))
   (zq (zL (pv 1))))),?_⟩
 refine⟨by show 0<=sizeLine;decide,fun f hf=>?_⟩
 have g0:=Same.new hf (.lst [])
 refine⟨_,rfl,p,sn,rfl,JF.mono (xr.of g0),hc,fun l H1 ts ps g1 hn hl hts htl hle=>?_⟩
 have nfl:f≠l:=zA zf hn
 have lt:=yU hts
 refine⟨l,rfl,⟨_,zP.of hl⟩,?_⟩
 refine vV (xs:=ps.map V.ref) (fun i σ H'=>∃(f1:Option V),Same H H'/\H' f=some (.lst (((ts.take i).flatMap Sn.letters).map V.str))/\H' l=some (.lst (ps.map V.ref))/\Paired (Qo H') ts ps/\((ts.take i).flatMap Sn.letters).length<=i/\i<=ts.length/\σ=[some (.ref p),some (.ref f),f1])
  ⟨_,g0.trans g1,g1 _ _ zf,hl,hts,by simp,ztz _,rfl⟩ ?_ ?_ ?_
 ·rintro i σ H' _ ⟨f1,g,hf',hl',_⟩
  exact zP.of hl'
 ·rintro i x σ H' hx ⟨f1,g,hf',hl',hts',lq,li,rfl⟩
  rw[zte] at hx
  cases ho:ps[i]? with
  | none=>rw[ho] at hx;cases hx
  | some pp =>
   rw[ho] at hx
   cases hx
   obtain⟨sy,hsy,iy⟩:=Jj hts' ho
   have hlt:=(ztf.mp hsy).1
   obtain⟨zs,c1,c2,c3,c4,c5⟩:=Qq iy
   have l1:=Sn.zaQ sy
   refine⟨_,rfl,.inl ⟨rfl,_,zP.of hf'⟩,_,rfl,pp,sy.word,sy.letters.length,sy.parts.length,_,rfl,c1,ZR sy,c3,fun b hb=>?_⟩
   rw[c4]
   have hf2:(upd H' b (.tup (sy.letters.map V.str))) f=some (.lst (((ts.take i).flatMap Sn.letters).map V.str)):=by rw[zG (zA hf' hb)];exact hf'
   refine⟨f,b,_,sy.letters.map V.str,rfl,rfl,hf2,wY.of zf,?_,?_⟩
   ·rw[ztc,ztc]
    exact ztv (zO (by omega))
   ·have t1:xr H' (upd (upd H' b (.tup (sy.letters.map V.str))) f (.lst (((ts.take i).flatMap Sn.letters).map V.str++sy.letters.map V.str))):=(xr.new hb _).trans (xr.lst hf2 _)
    have e:(ts.take (i+1)).flatMap Sn.letters=(ts.take i).flatMap Sn.letters++sy.letters:=by rw[yj hsy,List.flatMap_append,List.flatMap_singleton]
    refine⟨_,(g.trans (Same.new hb _)).over hf _,by rw[zf,e,ztq],?_,yO (fun _ _ z=>z.mono t1) hts',by rw[e,ztk];omega,hlt,rfl⟩
    rw[zG (Ne.symm nfl),zG (zA hl' hb)]
    exact hl'
 ·rintro σ H' ⟨f1,g,hf',hl',hts',lq,li,rfl⟩
  rw[ztc,<-lt,ztF] at hf' lq
  refine⟨_,rfl,q f H' _ g hf hf' (fun x=>?_) (by omega)⟩
  rw[<-hle x,List.mem_flatMap]
theorem Lr (T:Txt P w K mg a):zF P w K mg base zY (k+1) a.tE a.tG vq (UJ K):=by
 refine T.Uo.F.ok M9 (fun vs H Q E h=>?_) (fun cdv A outer s H vs Q E hr h=>?_)
 ·obtain⟨l,x,os,rfl,_⟩:=h
  rfl
 obtain⟨l,x,os,rfl,hO,hx,q⟩:=h
 refine⟨_,(zq (yq (zJ Mr (pv 1) (pv 0) (by with_unfolding_all rfl)) (zq Ss) zT)),?_⟩
 refine⟨_,rfl,_,rfl,l,_,rfl,.inl hO,rfl,Yu _,_,rfl,?_⟩
 have e:(if true=true then !inV (.str x) (os.map V.str) else inV (.str x) (os.map V.str))=false:=by
  rw[if_pos rfl,Mw,decide_eq_true hx];rfl
 rw[e]
 exact yr q
theorem N5 (T:Txt P w K mg a)(zdY:zF P w K mg base zY k a.Tg a.Ti XJ SN)(K6:zF P w K mg base zY k a.tE a.tG vq (UJ K)):zF P w K mg base zY (k+1) a.Yd a.Ye ux (SQ K):=by
 refine T.Vp.F.ok Wr (fun vs H Q E h=>?_) (fun cdv A outer s H vs Q E hr h=>?_)
 ·obtain⟨l,p,os,s,rfl,_⟩:=h
  rfl
 obtain⟨l,p,os,sn,rfl,hO,JF,hc,hin,q⟩:=h
 refine⟨_,(zq (xX PassesOwn.never rfl (yF (zp zdY hr T.Lk (za (pv 1) zc))) (yw (i:=2) Wr.nd rfl (Or.inl rfl)) (zq (yh (zp K6 hr T.Uo (za (pv 0) (za (pv 2) zc))))))),?_⟩
 refine⟨_,rfl,p,sn,rfl,JF,hc,fun f H1 xs g1 hn hl hmem hxl=>?_⟩
 refine⟨f,rfl,⟨_,zP.of hl⟩,?_⟩
 refine vV (xs:=xs.map V.str) (fun i σ H'=>∃f1:Option V,H'=H1/\σ=[some (.ref l),some (.ref p),f1]) ⟨_,rfl,rfl⟩ ?_ ?_ ?_
 ·rintro i σ H' _ ⟨f1,rfl,_⟩
  exact zP.of hl
 ·rintro i x σ H' hx ⟨f1,rfl,rfl⟩
  rw[zte] at hx
  cases ho:xs[i]? with
  | none=>rw[ho] at hx;cases hx
  | some y =>
   rw[ho] at hx
   cases hx
   have hy:y∈os:=(Sn.UG sn).mp hin y ((hmem y).mp (zth ho))
   exact⟨_,rfl,_,rfl,l,y,os,rfl,g1.seq hO,hy,_,rfl,rfl⟩
 ·rintro σ H' ⟨f1,rfl,rfl⟩
  exact q _ g1
theorem J5 (T:Txt P w K mg a):zF P w K mg base zY (k+1) a.uP a.uQ vA zes:=by
 refine T.R4.F.ok JQ (fun vs H Q E h=>?_) (fun cdv A outer s H vs Q E hr h=>?_)
 ·obtain⟨o,N,M,n,f,g,rfl,_⟩:=h
  rfl
 obtain⟨o,N,M,n,f,g,rfl,hN,hM,q⟩:=h
 refine⟨_,(zj (yq (zJ yH (pv 0) yg (zM _)) (zq (zL (zK Zg (pv 1) (pv 2)))) zT)
   (zj (yq (zJ yH (pv 0) yg (zM _)) (zq (zL (zK Vt (pv 1) (pv 2)))) zT)
   (zj (yq (zJ yH (pv 0) yg (zM _)) (zq (zL (zK Qm (pv 1) (pv 2)))) zT)
   (zq (zL (zK Vt (zK Qm (pv 3) (pv 1)) (pv 2))))))),?_⟩
 rcases zmq o with e | e | e | e
 ·subst e
  exact⟨_,rfl,rfl,_,rfl,yc (fun _=>⟨_,rfl,_,rfl,N,M,rfl,rfl,q _ (Zf hN hM)⟩) (fun c=>absurd (decide_eq_true rfl) c)⟩
 ·subst e
  refine⟨_,rfl,rfl,_,rfl,yc (fun c=>absurd c (ne_str (show Str.ofString "or" ≠ Str.ofString "and" by decide +kernel))) (fun _=>?_)⟩
  exact⟨_,rfl,rfl,_,rfl,yc (fun _=>⟨_,rfl,_,rfl,N,M,rfl,rfl,q _ (Sy hN hM)⟩) (fun c=>absurd (decide_eq_true rfl) c)⟩
 ·subst e
  refine⟨_,rfl,rfl,_,rfl,yc (fun c=>absurd c (ne_str (show Str.ofString "either" ≠ Str.ofString "and" by decide +kernel))) (fun _=>?_)⟩
  refine⟨_,rfl,rfl,_,rfl,yc (fun c=>absurd c (ne_str (show Str.ofString "either" ≠ Str.ofString "or" by decide +kernel))) (fun _=>?_)⟩
  exact⟨_,rfl,rfl,_,rfl,yc (fun _=>⟨_,rfl,_,rfl,N,M,rfl,rfl,q _ (Uz hN hM)⟩) (fun c=>absurd (decide_eq_true rfl) c)⟩
 ·subst e
  refine⟨_,rfl,rfl,_,rfl,yc (fun c=>absurd c (ne_str (show Str.ofString "if" ≠ Str.ofString "and" by decide +kernel))) (fun _=>?_)⟩
  refine⟨_,rfl,rfl,_,rfl,yc (fun c=>absurd c (ne_str (show Str.ofString "if" ≠ Str.ofString "or" by decide +kernel))) (fun _=>?_)⟩
  refine⟨_,rfl,rfl,_,rfl,yc (fun c=>absurd c (ne_str (show Str.ofString "if" ≠ Str.ofString "either" by decide +kernel))) (fun _=>?_)⟩
  refine⟨_,rfl,_,rfl,_,N,rfl,rfl,_,rfl,_,M,rfl,rfl,q _ (yR (Sy (Uz (Uy n) hN) hM) fun b _=>?_)⟩
  show((true != f b)||g b)=(!f b||g b)
  cases f b<;>rfl
theorem zbW {d:Nat}(T:Txt P w K mg a)(yK:zF P w K mg base zY k a.vO a.vP wR uY)(wj:zF P w K mg base zY k a.vJ a.vK wL uH)
  (tK:zF P w K mg base zY k a.X5 a.X6 Yy XR)(uT:zF P w K mg base zY k a.Zq a.Zr uL Yv)
  (Yp:zF P w K mg base zY k a.uP a.uQ vA zes)
  (N6:zF P w K mg base zY k a.WD a.WK YB (UL K d)):zF P w K mg base zY (k+1) a.WD a.WK YB (UL K (d+1)):=by
 refine T.NQ.F.ok Vj (fun vs H Q E h=>?_) (fun cdv A outer s H vs Q E hr h=>?_)
 ·obtain⟨p,l,sn,os,rfl,_⟩:=h
  rfl
 obtain⟨p,l,sn,os,rfl,JF,hO,hin,h8,hd,q⟩:=h
 refine⟨_,(zj (zH 2 Vj.nd (z8 vd (pv 0) zm (fun _ _=>rfl)))
   (zj (zH 3 Vj.nd (zB zy rfl T.yu zX (za (pv 1) zc)))
   (zj (yq (zJ yH (pv 2) yg (zM _)) (zq (zL zm)) zT)
   (zj (yq (zJ yH (pv 2) yg (zM _)) (zq (zL (zp yK hr T.uR (za (pv 3) zc)))) zT)
   (zj (yq (zJ yH (pv 2) yg (zM _)) (zq (zL (zp wj hr T.Xk (za (vf PySem.F.plainAttrs_list PySem.F.slot_list_index PySem.F.type_list_index Sw (pv 1) (za (z8 vd (pv 0) zm (fun _ _=>rfl)) zc)) (za (pv 3) zc))))) zT)
   (zj (zaH (tt:=Sv) (i:=4) Vj.nd rfl (Or.inl rfl) (.inl rfl) (wV:=zu Nr) (js:=[1]) rfl (by show uX _ _ "part" ["order"];exact Ku (by decide +kernel)) rfl (zcT (zp uT hr T.Tw (za (pv 0) zc))) (by show ∀j∈([1]:List Nat),j<5;decide) (fun cl C s₂ H₂ fp pins s' σ' H' Q I h=>wpAny_pure ⟨H',I,h⟩) (fun cl C s₂ H₂ fp=>(zp N6 hr T.NQ (za (pv 0) (za (pv 1) zc)))) rfl)
   (zj (yq (zJ yH (pv 2) yg (zM _)) (zq (zL (zK Qm (zp yK hr T.uR (za (pv 3) zc)) (z8 yd (pv 4) zm (fun _ _=>rfl))))) zT)
   (zj (yq (zJ yH (pv 2) yg (zM _)) (zq (zL (zK Vt (z8 yd (pv 4) zm (fun _ _=>rfl)) (zp tK hr T.Um (za (z8 yd (pv 4) zm (fun _ _=>rfl)) (za (vf PySem.F.plainAttrs_list PySem.F.slot_list_index PySem.F.type_list_index Sw (pv 1) (za (z8 vd (pv 0) zm (fun _ _=>rfl)) zc)) (za (pv 3) zc))))))) zT)
   (zj (yq (zJ yH (pv 2) yg (zM _)) (zq (zL (zK Zg (z8 yd (pv 4) zm (fun _ _=>rfl)) (zp tK hr T.Um (za (z8 yd (pv 4) zm (fun _ _=>rfl)) (za (vf PySem.F.plainAttrs_list PySem.F.slot_list_index PySem.F.type_list_index Sw (pv 1) (za (z8 vd (pv 0) zm (fun _ _=>rfl)) zc)) (za (pv 3) zc))))))) zT)
   (zq (zL (zp Yp hr T.R4 (za (pv 2) (za (z8 yd (pv 4) zm (fun _ _=>rfl)) (za (z8 yd (pv 4) zm (fun _ _=>rfl)) (za (zp yK hr T.uR (za (pv 3) zc)) zc)))))))))))))))),?_⟩
 have hlen:(os.map V.str).length=os.length:=ztc _
 obtain⟨zs,c1,c2,c3,c4,c5⟩:=Qq JF
 have lz:=yU c2
 have lp2:=Sn.Mx sn
 refine⟨_,rfl,p,_,0,_,rfl,rfl,wY.of c1,at0,?_⟩
 refine⟨_,rfl,l,_,rfl,.inl hO,?_⟩
 rw[hlen]
 have comp:∀{σ:St} {Q2:Addr->Hp->List V->Prop},σ.getD 1 none=some (.ref l)->(∀(b:Addr) (ys:List V) (H':Hp),Same H H'->H' b=none->ys.length=sn.parts.length->(∀(j:Nat) v,ys[j]?=some v->∃t N,sn.parts[j]?=some t/\v=.int (N:Nat)/\TabOf os t N)->Q2 b H' ys) ->
   ∀b0,H b0=none->∃W:Nat->Nat->List V->Hp->Prop,(∃m,W 0 m [] (upd H b0 (.tup (zs.map V.ref))))/\∀i m ys H,W i m ys H ->
    ((Itt K b0).stop i H/\∀p,H p=none->Q2 p H ys) \/
    ((Itt K b0).go i H/\ys.length<sizeLine/\∀x H',(Itt K b0).Qe i H x H'->Sv (Zx σ [1] (some x)) H' fun b H2 =>
     if b=true then Ml (UL K d) [] E0 (V2 (Sh 0) (V2 (Sh 1) zbE)) (Zx σ [1] (some x)) H2 fun v H3=>∃m',m'<m/\W (i+1) m' (ys++[v]) H3 else ∃m',m'<m/\W (i+1) m' ys H2):=by
  intro σ Q2 hσ hQ2 b0 hb0
  have g0:=Same.new hb0 (.tup (zs.map V.ref))
  refine zkC (fun j v=>∃t N,sn.parts[j]?=some t/\v=.int ((N:Nat):Int)/\TabOf os t N) (wY.of zf) (by rw[ztc];exact ztv (zO (by omega))) ?_ (znB (zf2 d)) ?_
  ·intro i x H' hx g
   rw[zte] at hx
   cases ho:zs[i]? with
   | none=>rw[ho] at hx;cases hx
   | some y =>
    rw[ho] at hx
    cases hx
    obtain⟨t,ht,it⟩:=Jj c2 ho
    have htm:=zth ht
    have dp:=Sn.Sx sn t htm
    refine⟨_,rfl,.ref l,?_,y,l,t,os,rfl,it.mono (xr.of (g0.trans g)),(g0.trans g).seq hO,Sn.zcj sn hin t htm,h8,by omega,fun N H3 g3 hN=>⟨⟨t,N,ht,rfl,hN⟩,g.trans g3⟩⟩
    show some (σ.getD 1 none)=_
    rw[hσ]
  ·intro ys H' pp hl hy g hpp
   exact hQ2 pp ys H' (g0.trans g) hpp (by rw[hl,ztc];exact lz.symm) hy
 cases sn with
 | c0 y =>
  cases y with
  | false=>exact⟨_,rfl,rfl,_,rfl,yc (fun _=>q 0 _ (Same.refl _) (ZP _)) (fun c=>absurd (decide_eq_true rfl) c)⟩
  | true =>
   refine⟨_,rfl,rfl,_,rfl,yc (fun c=>absurd c (ne_str (show Str.ofString "yes" ≠ Str.ofString "no" by decide +kernel))) (fun _=>?_)⟩
   exact⟨_,rfl,rfl,_,rfl,yc (fun _=>⟨_,rfl,os.length,rfl,h8,q _ _ (Same.refl _) (Uy _)⟩) (fun c=>absurd (decide_eq_true rfl) c)⟩
 | mk x =>
  refine⟨_,rfl,rfl,_,rfl,yc (fun c=>absurd c (ne_str (show Str.ofString "mark" ≠ Str.ofString "no" by decide +kernel))) (fun _=>?_)⟩
  refine⟨_,rfl,rfl,_,rfl,yc (fun c=>absurd c (ne_str (show Str.ofString "mark" ≠ Str.ofString "yes" by decide +kernel))) (fun _=>?_)⟩
  obtain⟨i1,i2,i3⟩:=XC (show x∈os from hin)
  have isp':H p=some (.tup [.str "mark", .str x]):=JF
  exact⟨_,rfl,rfl,_,rfl,yc (fun _=>⟨_,rfl,.inl ⟨rfl,_,hO⟩,_,rfl,p,_,1,_,rfl,rfl,wY.of isp',at1,l,_,.str x,_,rfl,rfl,hO,rfl,Yu _,i1,_,rfl,ix os x,os.length,rfl,i2,h8,fun R hR=>q R _ (Same.refl _) hR⟩) (fun c=>absurd (decide_eq_true rfl) c)⟩
 | nt s1 =>
  refine⟨_,rfl,rfl,_,rfl,yc (fun c=>absurd c (ne_str (show Str.ofString "not" ≠ Str.ofString "no" by decide +kernel))) (fun _=>?_)⟩
  refine⟨_,rfl,rfl,_,rfl,yc (fun c=>absurd c (ne_str (show Str.ofString "not" ≠ Str.ofString "yes" by decide +kernel))) (fun _=>?_)⟩
  refine⟨_,rfl,rfl,_,rfl,yc (fun c=>absurd c (ne_str (show Str.ofString "not" ≠ Str.ofString "mark" by decide +kernel))) (fun _=>?_)⟩
  refine⟨_,rfl,p,_,_,_,_,rfl,c1,ZR (.nt s1),c3,fun b0 hb0=>?_⟩
  rw[c5]
  refine⟨b0,rfl,⟨_,wY.of zf⟩,comp rfl (fun b ys H0 g0 hb0' hyl hy=>?_) b0 hb0⟩
  have hb:=zf (H:=H0) (a:=b) (o:=.lst ys)
  have g:=g0.trans (Same.new hb0' (.lst ys))
  obtain⟨v,rfl⟩:=len1 hyl
  obtain⟨t,N,ht,rfl,hN⟩:=hy 0 v rfl
  cases ht
  refine⟨_,rfl,rfl,_,rfl,yc (fun _=>⟨_,rfl,os.length,rfl,h8,_,rfl,b,_,0,_,rfl,rfl,zP.of hb,at0,_,N,rfl,rfl,q _ _ g (yR (Uz (Uy _) hN) fun z _=>?_)⟩) (fun c=>absurd (decide_eq_true rfl) c)⟩
  show(true != s1.val (xP os z))=!s1.val (xP os z)
  cases s1.val (xP os z)<;>rfl
 | b2 o s1 s2 =>
  have w1:w2 o≠Str.ofString "no" := zly o
  have w2':w2 o≠Str.ofString "yes" := zi4 o
  have w3:w2 o≠Str.ofString "mark" := zg2 o
  have w4:w2 o≠Str.ofString "not" := zi5 o
  have w5:w2 o≠Str.ofString "some" := zg3 o
  have w6:w2 o≠Str.ofString "each" := zg4 o
  refine⟨_,rfl,rfl,_,rfl,yc (fun c=>absurd c (ne_str w1)) (fun _=>?_)⟩
  refine⟨_,rfl,rfl,_,rfl,yc (fun c=>absurd c (ne_str w2')) (fun _=>?_)⟩
  refine⟨_,rfl,rfl,_,rfl,yc (fun c=>absurd c (ne_str w3)) (fun _=>?_)⟩
  refine⟨_,rfl,p,_,_,_,_,rfl,c1,ZR (.b2 o s1 s2),c3,fun b0 hb0=>?_⟩
  rw[c5]
  refine⟨b0,rfl,⟨_,wY.of zf⟩,comp rfl (fun b ys H0 g0 hb0' hyl hy=>?_) b0 hb0⟩
  have hb:=zf (H:=H0) (a:=b) (o:=.lst ys)
  have g:=g0.trans (Same.new hb0' (.lst ys))
  obtain⟨v,u,rfl⟩:=len2 hyl
  obtain⟨t,N,ht,rfl,hN⟩:=hy 0 v rfl
  obtain⟨t',M,ht',rfl,hM⟩:=hy 1 u rfl
  cases ht
  cases ht'
  refine⟨_,rfl,rfl,_,rfl,yc (fun c=>absurd c (ne_str w4)) (fun _=>?_)⟩
  refine⟨_,rfl,rfl,_,rfl,yc (fun c=>absurd c (ne_str w5)) (fun _=>?_)⟩
  refine⟨_,rfl,rfl,_,rfl,yc (fun c=>absurd c (ne_str w6)) (fun _=>?_)⟩
  exact⟨_,rfl,_,rfl,b,_,0,_,rfl,rfl,zP.of hb,at0,_,rfl,b,_,1,_,rfl,rfl,zP.of hb,at1,_,rfl,os.length,rfl,h8,o,N,M,os.length,_,_,rfl,hN,hM,fun R hR=>q R _ g hR⟩
 | q1 o x s1 =>
  obtain⟨hx,hs1⟩:=hin
  obtain⟨i1,i2,i3⟩:=XC hx
  cases o with
  | true =>
   refine⟨_,rfl,rfl,_,rfl,yc (fun c=>absurd c (ne_str (show Str.ofString "some" ≠ Str.ofString "no" by decide +kernel))) (fun _=>?_)⟩
   refine⟨_,rfl,rfl,_,rfl,yc (fun c=>absurd c (ne_str (show Str.ofString "some" ≠ Str.ofString "yes" by decide +kernel))) (fun _=>?_)⟩
   refine⟨_,rfl,rfl,_,rfl,yc (fun c=>absurd c (ne_str (show Str.ofString "some" ≠ Str.ofString "mark" by decide +kernel))) (fun _=>?_)⟩
   refine⟨_,rfl,p,_,_,_,_,rfl,c1,ZR (.q1 true x s1),c3,fun b0 hb0=>?_⟩
   rw[c5]
   refine⟨b0,rfl,⟨_,wY.of zf⟩,comp rfl (fun b ys H0 g0 hb0' hyl hy=>?_) b0 hb0⟩
   have hb:=zf (H:=H0) (a:=b) (o:=.lst ys)
   have g:=g0.trans (Same.new hb0' (.lst ys))
   obtain⟨v,rfl⟩:=len1 hyl
   obtain⟨t,N,ht,rfl,hN⟩:=hy 0 v rfl
   cases ht
   have c1':=g _ _ c1
   refine⟨_,rfl,rfl,_,rfl,yc (fun c=>absurd c (ne_str (show Str.ofString "some" ≠ Str.ofString "not" by decide +kernel))) (fun _=>?_)⟩
   refine⟨_,rfl,rfl,_,rfl,yc (fun _=>?_) (fun c=>absurd (decide_eq_true rfl) c)⟩
   refine⟨_,rfl,b,_,0,_,rfl,rfl,zP.of hb,at0,_,rfl,b,_,0,_,rfl,rfl,zP.of hb,at0,_,rfl,.inl ⟨rfl,_,g.seq hO⟩,_,rfl,p,_,1,_,rfl,rfl,wY.of c1',at1,l,_,.str x,_,rfl,rfl,g.seq hO,rfl,Yu _,i1,_,rfl,N,ix os x,os.length,_,rfl,i2,h8,hN,fun R hR=>⟨N,R,rfl,rfl,q _ _ g (yR (Sy hN hR) fun z _=>?_)⟩⟩
   exact(zi2 hs1 hx z).symm
  | false =>
   refine⟨_,rfl,rfl,_,rfl,yc (fun c=>absurd c (ne_str (show Str.ofString "each" ≠ Str.ofString "no" by decide +kernel))) (fun _=>?_)⟩
   refine⟨_,rfl,rfl,_,rfl,yc (fun c=>absurd c (ne_str (show Str.ofString "each" ≠ Str.ofString "yes" by decide +kernel))) (fun _=>?_)⟩
   refine⟨_,rfl,rfl,_,rfl,yc (fun c=>absurd c (ne_str (show Str.ofString "each" ≠ Str.ofString "mark" by decide +kernel))) (fun _=>?_)⟩
   refine⟨_,rfl,p,_,_,_,_,rfl,c1,ZR (.q1 false x s1),c3,fun b0 hb0=>?_⟩
   rw[c5]
   refine⟨b0,rfl,⟨_,wY.of zf⟩,comp rfl (fun b ys H0 g0 hb0' hyl hy=>?_) b0 hb0⟩
   have hb:=zf (H:=H0) (a:=b) (o:=.lst ys)
   have g:=g0.trans (Same.new hb0' (.lst ys))
   obtain⟨v,rfl⟩:=len1 hyl
   obtain⟨t,N,ht,rfl,hN⟩:=hy 0 v rfl
   cases ht
   have c1':=g _ _ c1
   refine⟨_,rfl,rfl,_,rfl,yc (fun c=>absurd c (ne_str (show Str.ofString "each" ≠ Str.ofString "not" by decide +kernel))) (fun _=>?_)⟩
   refine⟨_,rfl,rfl,_,rfl,yc (fun c=>absurd c (ne_str (show Str.ofString "each" ≠ Str.ofString "some" by decide +kernel))) (fun _=>?_)⟩
   refine⟨_,rfl,rfl,_,rfl,yc (fun _=>?_) (fun c=>absurd (decide_eq_true rfl) c)⟩
   refine⟨_,rfl,b,_,0,_,rfl,rfl,zP.of hb,at0,_,rfl,b,_,0,_,rfl,rfl,zP.of hb,at0,_,rfl,.inl ⟨rfl,_,g.seq hO⟩,_,rfl,p,_,1,_,rfl,rfl,wY.of c1',at1,l,_,.str x,_,rfl,rfl,g.seq hO,rfl,Yu _,i1,_,rfl,N,ix os x,os.length,_,rfl,i2,h8,hN,fun R hR=>⟨N,R,rfl,rfl,q _ _ g (yR (Zf hN hR) fun z _=>?_)⟩⟩
   exact(zi3 hs1 hx z).symm
theorem JG (T:Txt P w K mg a)(yK:zF P w K mg base zY k a.vO a.vP wR uY)(wj:zF P w K mg base zY k a.vJ a.vK wL uH)
  (tK:zF P w K mg base zY k a.X5 a.X6 Yy XR)(uT:zF P w K mg base zY k a.Zq a.Zr uL Yv)
  (Yp:zF P w K mg base zY k a.uP a.uQ vA zes):∀d:Nat,zF P w K mg base zY (k+d) a.WD a.WK YB (UL K d)
 | 0=>by
  refine⟨fun vs H Q E h=>?_,fun A outer s H args us vs Q E _ _ _ _ h=>?_⟩
  ·obtain⟨p,l,sn,os,rfl,_⟩:=h
   rfl
  ·obtain⟨p,l,sn,os,_,_,_,_,_,hd,_⟩:=h
   have:=Sn.Qk sn
   omega
 | d+1=>zbW T (yK.mono (ztN _ _)) (wj.mono (ztN _ _)) (tK.mono (ztN _ _)) (uT.mono (ztN _ _)) (Yp.mono (ztN _ _)) (JG T yK wj tK uT Yp d)
theorem zgw (T:Txt P w K mg a)(wj:zF P w K mg base zY k a.vJ a.vK wL uH)(tK:zF P w K mg base zY k a.X5 a.X6 Yy XR):zF P w K mg base zY (k+1) a.YD a.YF Zy Wj:=by
 refine T.YJ.F.ok Np (fun vs H Q E h=>?_) (fun cdv A outer s H vs Q E hr h=>?_)
 ·obtain⟨N,p,n,v,f,rfl,_⟩:=h
  rfl
 obtain⟨N,p,n,v,f,rfl,hp,hn,tb,q⟩:=h
 refine⟨_,(zj (zH 4 Np.nd (zK Zg (pv 0) (zp wj hr T.Xk (za (pv 1) (za (pv 3) zc)))))
   (zj (zH 5 Np.nd (Mi (zJ yH (pv 2) zm (zM _)) (pv 4) (zK Qm (pv 0) (pv 4))))
   (zq (zL (zK Vt (pv 5) (zp tK hr T.Um (za (pv 5) (za (pv 1) (za (pv 3) zc))))))))),?_⟩
 refine⟨_,rfl,_,rfl,_,rfl,p,n,rfl,hp,hn,fun R tr=>?_⟩
 refine⟨N,R,rfl,rfl,?_⟩
 have o:=xV.Zf tb tr
 refine⟨_,rfl,rfl,_,rfl,?_⟩
 cases v with
 | true =>
  refine yc (fun _=>?_) (fun c=>absurd (decide_eq_true rfl) c)
  refine⟨_,rfl,?_⟩
  refine⟨_,rfl,_,rfl,_,rfl,_,rfl,N&&&R,p,n,_,rfl,hp,hn,o,fun R2 t2=>?_⟩
  refine⟨_,_,rfl,rfl,q _ (yR (xV.Sy o t2) fun b hb=>?_)⟩
  show((f b&&b.testBit p)||(f (zQ b p (!b.testBit p))&&(zQ b p (!b.testBit p)).testBit p))=f (zQ b p true)
  rw[zU,if_pos rfl]
  cases e:b.testBit p
  ·simp
  ·rw[<-e,yN.yL,e];simp
 | false =>
  refine yc (fun c=>absurd (of_decide_eq_true c) (fun z=>by injection z with z;revert z;decide)) (fun _=>?_)
  have z:=xV.Uz tb o
  refine⟨_,rfl,_,rfl,N,N&&&R,rfl,rfl,?_⟩
  refine⟨_,rfl,_,rfl,_,rfl,_,rfl,N ^^^ (N&&&R),p,n,_,rfl,hp,hn,z,fun R2 t2=>?_⟩
  refine⟨_,_,rfl,rfl,q _ (yR (xV.Sy z t2) fun b hb=>?_)⟩
  show((f b != (f b&&b.testBit p))||(f (zQ b p (!b.testBit p)) != (f (zQ b p (!b.testBit p))&&(zQ b p (!b.testBit p)).testBit p)))=f (zQ b p false)
  rw[zU,if_pos rfl]
  cases e:b.testBit p
  ·rw[<-e,yN.yL,e];simp
  ·simp
theorem zfk (T:Txt P w K mg a)(tK:zF P w K mg base zY k a.X5 a.X6 Yy XR):zF P w K mg base zY (k+1) a.Nu a.Nv U7 zdl:=by
 refine T.zbm.F.ok zeW (fun vs H Q E h=>?_) (fun cdv A outer s H vs Q E hr h=>?_)
 ·obtain⟨N,p,n,f,rfl,_⟩:=h
  rfl
 obtain⟨N,p,n,f,rfl,hp,hn,tb,q⟩:=h
 refine⟨_,(zq (zL (xK TV (zp tK hr T.Um (za (pv 0) (za (pv 1) (za (pv 2) zc)))) (pv 0) (zM _)))),?_⟩
 refine⟨_,rfl,_,rfl,_,rfl,N,p,n,f,rfl,hp,hn,tb,fun R tr=>?_⟩
 refine⟨_,rfl,rfl,?_⟩
 refine q _ (fun e=>?_) (fun e=>?_)
 ·have e1:R=N:=by
   have z:V.int (R:Nat)=V.int (N:Nat):=of_decide_eq_true (by simpa using e)
   injection z with z
   omega
  subst e1
  refine yN.Free.zkJ fun b hb=>?_
  rw[<-yN.ZX tr hb,yN.ZX tb hb]
 ·refine Classical.byContradiction fun no=>?_
  have e1:R=N:=yN.Vc tr tb fun b hb=>by
   refine Classical.byContradiction fun ne=>no ⟨b,hb,fun z=>ne ?_⟩
   show f (zQ b p (!b.testBit p))=f b
   cases e:b.testBit p
   ·rw[Bool.not_false,<-z,<-e,yN.yL]
   ·rw[Bool.not_true,z,<-e,yN.yL]
  subst e1
  rw[decide_eq_true rfl] at e
  cases e
theorem zbq (T:Txt P w K mg a)(zgx:zF P w K mg base zY k a.Nu a.Nv U7 zdl):zF P w K mg base zY (k+1) a.Y4 a.Y5 tU zah:=by
 refine T.Pr.F.ok Wo (fun vs H Q E h=>?_) (fun cdv A outer s H vs Q E hr h=>?_)
 ·obtain⟨N,n,f,rfl,_⟩:=h
  rfl
 obtain⟨N,n,f,rfl,hn,tb,q⟩:=h
 refine⟨_,(zj (zH 2 Wo.nd zm)
   (zj (zay PassesOwn.never (PW.pt (ZG (zJ zgO (pv 2) (pv 1) (zM _)) (Ze (ZJ (xU (zp zgx hr T.zbm (za (pv 0) (za (pv 2) (za (pv 1) zc)))) (fun _=>rfl)))))) (zq (zfC (i:=2) Wo.nd rfl (Or.inl rfl) zm zcU)))
   (zq (zL (pv 2))))),?_⟩
 refine⟨fun m σ H'=>∃p:Nat,m=n-p/\H'=H/\p<=n/\(∀i,i<p->yN.Free n f i)/\σ=[some (.int N),some (.int n),some (.int p)],⟨_,0,rfl,rfl,ztz _,fun i hi=>absurd hi (Nat.not_lt_zero _),rfl⟩,?_⟩
 rintro m σ H' ⟨p,rfl,rfl,hp,fr,rfl⟩
 refine⟨_,rfl,_,rfl,_,_,rfl,rfl,_,rfl,yc (fun c=>?_) (fun c=>?_)⟩
 ·have hpn:p<n:=by have:=of_decide_eq_true c;omega
  refine⟨_,rfl,_,rfl,_,rfl,N,p,n,f,rfl,hpn,hn,tb,fun b hf ht=>?_⟩
  cases b with
  | false =>
   refine⟨_,rfl,yc (fun c2=>?_) (fun c2=>absurd rfl c2)⟩
   refine⟨_,fun σ' H2 h=>h,?_⟩
   refine⟨_,rfl,_,_,rfl,rfl,n-(p+1),by omega,p+1,rfl,rfl,hpn,fun i hi=>?_,rfl⟩
   by_cases e:i=p
   ·subst e
    exact hf rfl
   ·exact fr i (by omega)
  | true =>
   refine⟨_,rfl,yc (fun c2=>absurd c2 ztg) (fun c2=>?_)⟩
   exact⟨_,rfl,q p hp fr fun _=>ht rfl⟩
 ·refine⟨_,rfl,q p hp fr fun h=>absurd (decide_eq_true (by omega)) c⟩
theorem N7 {d:Nat}(T:Txt P w K mg a)(Xa:zF P w K mg base zY k a.Y4 a.Y5 tU zah)(xO:zF P w K mg base zY k a.YD a.YF Zy Wj)
  (tL:zF P w K mg base zY k a.vG a.vH wk (Xf a.zE d)):zF P w K mg base zY (k+1) a.vG a.vH wk (Xf a.zE (d+1)):=by
 refine T.tH.F.ok wN (fun vs H Q E h=>?_) (fun cdv A outer s H vs Q E hr h=>?_)
 ·obtain⟨b,os,rs,F,t,u,f,rfl,_⟩:=h
  rfl
 obtain⟨b,os,rs,F,t,u,f,rfl,hB,hlen,hu,hd,tb,fr,q⟩:=h
 refine⟨_,(zj (yq (zlZ (zhX (zch hr) (pv 1) (Xl (pv 0) rfl))) (zj (zH 2 wN.nd (zB zy rfl T.yu zX (za (Xl (pv 0) rfl) zc)))
   (zj (zH 3 wN.nd (zp Xa hr T.Pr (za (pv 1) (za (pv 2) zc))))
   (zj (zH 4 wN.nd (tQ (pv 0) T.yQ T.tH tL hr (za (zp xO hr T.YJ (za (pv 1) (za (pv 3) (za zm (za (pv 2) zc))))) zc)))
   (zj (zH 5 wN.nd (tQ (pv 0) T.yQ T.tH tL hr (za (zp xO hr T.YJ (za (pv 1) (za (pv 3) (za zm (za (pv 2) zc))))) zc)))
   (zj (zhb (zch hr) (Xl (pv 0) rfl) (pv 1) (zB zy rfl T.yu zX (za (Xl (pv 0) rfl) zc)) rfl)
   (zj (yh (vf PySem.F.plainAttrs_list PySem.F.slot_list_append PySem.F.type_list_append uW (Xl (pv 0) rfl) (za (uG (za (pv 3) (za (pv 4) (za (pv 5) zc)))) zc)))
   (zq (yh (vf PySem.F.plainAttrs_list PySem.F.slot_list_append PySem.F.type_list_append uW (Xl (pv 0) rfl) (za (pv 1) zc)))))))))) zT)
   (zq (zL (zdj (zch hr) (Xl (pv 0) rfl) (pv 1) (fun _ _=>rfl))))),?_⟩
 have hB0:=hB
 obtain⟨dx,ml,rl,tl,nd,rv,ts,kvs,h⟩:=hB
 have n8:os.length<=8:=h.ord.le
 have hml:(os.map V.str).length=os.length:=ztc _
 have pw:2^(d+1)=2^d+2^d:=by rw[Nat.pow_succ];omega
 have pd:1<=2^d:=Nat.one_le_two_pow
 have pn:2^os.length<=256:=xV.zhT n8
 refine⟨_,rfl,_,rfl,b,a.zE,dx,_,_,rfl,h.hb,T.yQ,T.vZ,rfl,nd,_,rfl,JL.k (k:=.inl (t:Int)) h.hd,?_⟩
 by_cases hm:t∈ts
 ·obtain⟨j,hj,ej⟩:=ztU hm
  have ej':ts[j]?=some t:=by rw[ztd hj,ej]
  have ev:=h.nums.get j t ej'
  have z:=JL.k (k:=.inl (t:Int)) h.hd
  rw[ev] at z
  rw[ev]
  refine⟨_,rfl,yr ?_⟩
  refine⟨_,rfl,b,a.zE,dx,_,_,rfl,h.hb,T.yQ,T.vZ,rfl,_,rfl,nd,_,rfl,z,?_⟩
  refine q j rs H (fun x o e _=>e) (fun _ _ e=>e) hB0 (.refl _) (by rw[<-h.tabs.len];exact hj) (h.tabs.find h.bk ej' tb) (by omega) (fun j h1 h2=>by omega) (ztN _ _)
 ·have ev:=h.nums.non t hm
  rw[ev]
  refine⟨_,rfl,Wh ?_⟩
  refine⟨_,rfl,b,a.zE,dx,_,_,rfl,h.hb,T.yQ,T.Zc,rfl,ml,_,rfl,.inl (zP.of h.hm),?_⟩
  rw[hml]
  refine⟨_,rfl,_,rfl,t,os.length,f,rfl,n8,tb,fun p hp0 frp dep=>?_⟩
  have hp:p<os.length:=by
   refine Nat.lt_of_le_of_ne hp0 fun e=>hm ?_
   subst e
   have cs:=yN.YM frp
   have two:=yN.len2 h.bk
   cases hf:f 0 with
   | false=>exact zth (h.tabs.same (j:=0) (by omega) tb fun r=>by rw[cs _ (yN.Zh _ _),hf];rfl)
   | true=>exact zth (h.tabs.same (j:=1) (by omega) tb fun r=>by rw[cs _ (yN.Zh _ _),hf];exact yN.Qv h.bk r)
  have hup:u<=p:=by
   refine Nat.le_of_not_lt fun hlt=>?_
   obtain⟨c,hc,hne⟩:=dep hp
   exact hne (by rw[fr p hlt c hc,fr p hlt c hc])
  have fre:∀(v:Bool) i,i<p+1->yN.Free os.length (fun c=>f (zQ c p v)) i:=fun v i hi c hc v'=>by
   show f (zQ (zQ c i v') p v)=f (zQ c p v)
   by_cases e:i=p
   ·subst e
    congr 1
    refine yN.ZW (zW (zW hc hp) hp) (zW hc hp) fun j _=>?_
    rw[zU,zU,zU]
    by_cases e:j=i
    ·rw[if_pos e,if_pos e]
    ·rw[if_neg e,if_neg e,if_neg e]
   ·rw[<-frp i (by omega) _ (zW (v:=v) hc hp) v']
    congr 1
    refine yN.ZW (zW (zW hc (by omega)) hp) (zW (zW hc hp) (by omega)) fun j _=>?_
    rw[zU,zU,zU,zU]
    by_cases e1:j=p
    ·rw[if_pos e1,if_pos e1,if_neg (by omega)]
    ·rw[if_neg e1,if_neg e1]
  refine⟨_,rfl,b,dx,_,rfl,h.hb,rfl,_,rfl,_,rfl,_,rfl,t,p,os.length,false,f,rfl,hp,n8,tb,fun R0 tr0=>?_⟩
  refine⟨b,os,rs,F,R0,p+1,_,rfl,hB0,by omega,hp,by omega,tr0,fre false,fun k0 rs1 H1 aw1 tu1 hB1 gr1 lt1 y1 ln1 lv1 hh1=>?_⟩
  have hB1':=hB1
  obtain⟨dx1,ml1,rl1,tl1,nd1,rv1,ts1,zrV,h1⟩:=hB1
  refine⟨_,rfl,b,dx1,_,rfl,h1.hb,rfl,_,rfl,_,rfl,_,rfl,t,p,os.length,true,f,rfl,hp,n8,tb,fun R1 tr1=>?_⟩
  refine⟨b,os,rs1,F,R1,p+1,_,rfl,hB1',by omega,hp,by omega,tr1,fre true,fun k1 rs2 H2 aw2 tu2 hB2 gr2 lt2 y2 ln2 lv2 hh2=>?_⟩
  obtain⟨dx2,ml2,rl2,tl2,Mh,rv2,ts2,zmK,h2⟩:=hB2
  have lt1':k0<rs2.length:=ztl lt1 gr2.len
  have y1':∀r,yN.yes rs2 k0 r=f (zQ (yN.bits r os.length) p false):=fun r=>by rw[gr2.yes h1.bk lt1];exact y1 r
  have g02:=gr1.trans gr2
  have lrs:=g02.len
  have lvs:∀j,rs.length<=j->j<rs2.length->p<yN.Kv os.length rs2 j:=fun j a1 a2=>by
   by_cases hj:j<rs1.length
   ·rw[gr2.Kv hj];exact lv1 j a1 hj
   ·exact lv2 j (by omega) a2
  have old:∀j,j<rs.length->¬∀r,yN.yes rs2 j r=f (yN.bits r os.length):=fun j hj hy=>hm (zth (h.tabs.same hj tb fun r=>by rw[<-g02.yes h.bk hj];exact hy r))
  obtain⟨B',yn⟩:=yN.zjd h2.bk hp lt1' lt2 y1' y2 frp (dep hp) old lvs
  have hn2:t∉ts2:=fun hm2=>by
   obtain⟨j,hj,ej⟩:=ztU hm2
   have ej':ts2[j]?=some t:=by rw[ztd hj,ej]
   have hjr:j<rs2.length:=by rw[<-h2.tabs.len];exact hj
   have hy:=h2.tabs.find h2.bk ej' tb
   by_cases hjo:j<rs.length
   ·exact old j hjo hy
   ·obtain⟨c,hc,hne⟩:=dep hp
    have lv:=lvs j (by omega) hjr
    refine hne ?_
    have a1:=hy (yN.put (yN.JM c) p false)
    have a2:=hy (yN.put (yN.JM c) p true)
    rw[yN.ZS h2.bk hjr lv,yN.zeB hp,yN.Qx hc] at a1 a2
    exact a1.symm.trans a2
  have l2:=h2.len
  have s2:rs2.length<sizeLine:=ztl (show rs2.length<9000001 by omega) (by decide)
  refine⟨_,rfl,b,a.zE,dx2,_,_,rfl,h2.hb,T.yQ,T.Y9,rfl,rl2,_,rfl,.inl (zP.of h2.hr),?_⟩
  rw[l2]
  refine⟨_,rfl,b,a.zE,dx2,_,_,rfl,h2.hb,T.yQ,T.vZ,rfl,_,rfl,Mh,_,rfl,zhU.k (k:=.inl (t:Int)) h2.hd (by have:=h2.nums.len;have:=h2.tabs.len;omega),?_⟩
  have nb:Mh≠b:=Sd h2.hd h2.hb (by intro z;cases z)
  have nm:Mh≠ml2:=Sd h2.hd h2.hm (by intro z;cases z)
  have nr:Mh≠rl2:=Sd h2.hd h2.hr (by intro z;cases z)
  have nt:Mh≠tl2:=Sd h2.hd h2.ht (by intro z;cases z)
  have br:b≠rl2:=Sd h2.hb h2.hr (by intro z;cases z)
  have bt:b≠tl2:=Sd h2.hb h2.ht (by intro z;cases z)
  generalize hO3:HO.dK (putK zmK (Sum.inl (t:Int)) (V.int (rs2.length:Nat)))=o3
  have b3:upd H2 Mh o3 b=some (.ins a.zE dx2 (Kw ml2 rl2 tl2 Mh)):=by rw[zG (Ne.symm nb)];exact h2.hb
  have r3:upd H2 Mh o3 rl2=some (.lst rv2):=by rw[zG (Ne.symm nr)];exact h2.hr
  refine⟨_,rfl,b,a.zE,dx2,_,_,rfl,b3,T.yQ,T.Y9,rfl,.inl ⟨rfl,_,zP.of r3⟩,?_⟩
  refine⟨_,rfl,_,rfl,_,rfl,by show 3<=sizeLine;decide,fun q4 hq4=>?_⟩
  generalize hO4:HO.tup [V.int (p:Nat),V.int (k0:Nat),V.int (k1:Nat)]=o4
  have r4:upd (upd H2 Mh o3) q4 o4 rl2=some (.lst rv2):=by rw[zG (zA r3 hq4)];exact r3
  refine⟨rl2,_,_,rfl,rfl,r4,by rw[l2];exact s2,?_⟩
  have b4:upd (upd H2 Mh o3) q4 o4 b=some (.ins a.zE dx2 (Kw ml2 rl2 tl2 Mh)):=by rw[zG (zA b3 hq4)];exact b3
  have t3:upd H2 Mh o3 tl2=some (.lst (ts2.map fun t=>V.int (t:Nat))):=by rw[zG (Ne.symm nt)];exact h2.ht
  have t4:upd (upd H2 Mh o3) q4 o4 tl2=some (.lst (ts2.map fun t=>V.int (t:Nat))):=by rw[zG (zA t3 hq4)];exact t3
  have m3:upd H2 Mh o3 ml2=some (.lst (os.map V.str)):=by rw[zG (Ne.symm nm)];exact h2.hm
  have m4:upd (upd H2 Mh o3) q4 o4 ml2=some (.lst (os.map V.str)):=by rw[zG (zA m3 hq4)];exact m3
  have n3:upd H2 Mh o3 Mh=some o3:=zf
  have n4:upd (upd H2 Mh o3) q4 o4 Mh=some o3:=by rw[zG (zA n3 hq4)];exact n3
  have qr:q4≠rl2:=Ne.symm (zA r3 hq4)
  have qt:q4≠tl2:=Ne.symm (zA t3 hq4)
  have q4':upd (upd H2 Mh o3) q4 o4 q4=some o4:=zf
  have tu4:xr H2 (upd (upd H2 Mh o3) q4 o4):=fun x xs e=>by
   have e3:upd H2 Mh o3 x=some (.tup xs):=by rw[zG (Sd e h2.hd (by intro z;cases z))];exact e
   rw[zG (zA e3 hq4)];exact e3
  have aw4:∀x o,H2 x=some o->¬F x->upd (upd H2 Mh o3) q4 o4 x=some o:=fun x o e nf=>by
   have e3:upd H2 Mh o3 x=some o:=by rw[zG (fun z=>nf ((h2.ft x).mpr (.inr (.inr (.inr (.inr z))))))];exact e
   rw[zG (zA e3 hq4)];exact e3
  generalize upd (upd H2 Mh o3) q4 o4=H4 at b4 t4 m4 n4 r4 q4' tu4 aw4
  generalize hO5:HO.lst (rv2++[V.ref q4])=o5
  have b5:upd H4 rl2 o5 b=some (.ins a.zE dx2 (Kw ml2 rl2 tl2 Mh)):=by rw[zG br];exact b4
  have t5:upd H4 rl2 o5 tl2=some (.lst (ts2.map fun t=>V.int (t:Nat))):=by rw[zG (Ne.symm h2.rt)];exact t4
  refine⟨_,rfl,b,a.zE,dx2,_,_,rfl,b5,T.yQ,T.W3,rfl,.inl ⟨rfl,_,zP.of t5⟩,_,rfl,tl2,_,_,rfl,rfl,t5,by rw[ztc,h2.tabs.len];exact s2,?_⟩
  generalize hO6:HO.lst (ts2.map (fun t=>V.int (t:Nat))++[V.int (t:Nat)])=o6
  have b6:upd (upd H4 rl2 o5) tl2 o6 b=some (.ins a.zE dx2 (Kw ml2 rl2 tl2 Mh)):=by rw[zG bt];exact b5
  have n6:upd (upd H4 rl2 o5) tl2 o6 Mh=some (.dK (putK zmK (Sum.inl (t:Int)) (V.int (rs2.length:Nat)))):=by rw[zG nt,zG nr,n4,hO3]
  have z:=JL.k (k:=.inl (t:Int)) n6
  rw[vm,if_pos rfl] at z
  refine⟨_,rfl,b,a.zE,dx2,_,_,rfl,b6,T.yQ,T.vZ,rfl,_,rfl,Mh,_,rfl,z,?_⟩
  have tu6:xr H4 (upd (upd H4 rl2 o5) tl2 o6):=fun x xs e=>by
   rw[zG (Sd e t4 (by intro z;cases z)),zG (Sd e r4 (by intro z;cases z))];exact e
  have parts:=h2.more (H':=upd (upd H4 rl2 o5) tl2 o6) (i:=p) (lo:=k0) (hi:=k1) (t:=t) (q:=q4) (fun x xs e=>tu6 _ _ (tu4 _ _ e)) (b6.trans h2.hb.symm)
   (by rw[zG h2.mt,zG h2.mr,m4,h2.hm]) (by rw[zG h2.rt,zf,hO5]) (by rw[zf,hO6]) n6
   (by rw[zG qt,zG qr,q4',hO4]) B' hn2 (yR tb fun c hc=>by rw[yn,yN.Qx hc])
  refine q rs2.length _ _ (fun x o e nf=>?_) (fun x xs e=>tu6 _ _ (tu4 _ _ (tu2 _ _ (tu1 _ _ e)))) ⟨_,_,_,_,_,_,_,_,parts⟩ (g02.trans (yN.uI.snoc _ _)) (by simp) yn (by rw[ztk,ztK];omega) (fun j a1 a2=>?_) ?_
  ·have e2:=aw2 x o (aw1 x o e nf) nf
   rw[zG (fun z=>nf ((h2.ft x).mpr (.inr (.inr (.inr (.inl z)))))),zG (fun z=>nf ((h2.ft x).mpr (.inr (.inr (.inl z)))))]
   exact aw4 x o e2 nf
  ·rw[ztk,ztK] at a2
   by_cases hj:j<rs2.length
   ·rw[yN.Rh hj]
    have:=lvs j a1 hj
    omega
   ·have:j=rs2.length:=by omega
    subst this
    rw[yN.Rg B' (i:=p) (lo:=k0) (hi:=k1) (by simp)]
    exact hup
  ·rw[yN.zkL]
   have:=yN.zkM (n:=os.length) hup
   omega
theorem W6 (T:Txt P w K mg a)(Xa:zF P w K mg base zY k a.Y4 a.Y5 tU zah)(xO:zF P w K mg base zY k a.YD a.YF Zy Wj) :
  ∀d:Nat,zF P w K mg base zY (k+d) a.vG a.vH wk (Xf a.zE d)
 | 0=>by
  refine⟨fun vs H Q E h=>?_,fun A outer s H args us vs Q E _ _ _ _ h=>?_⟩
  ·obtain⟨b,os,rs,F,t,u,f,rfl,_⟩:=h
   rfl
  ·obtain⟨b,os,rs,F,t,u,f,_,_,_,hu,hd,_⟩:=h
   omega
 | d+1=>N7 T (Xa.mono (ztN _ _)) (xO.mono (ztN _ _)) (W6 T Xa xO d)
theorem zbr (T:Txt P w K mg a)(N8:zF P w K mg base zY k a.Zt a.Zu vM Kr)(Ls:zF P w K mg base zY k a.Yd a.Ye ux (SQ K))
  (N6:zF P w K mg base zY k a.WD a.WK YB (UL K 24))(tL:zF P w K mg base zY k a.vG a.vH wk (Xf a.zE 9)) :
  zF P w K mg base zY (k+1) a.Tj a.Tn XM (zaY a.zE):=by
 refine T.Lp.F.ok zbP (fun vs H Q E h=>?_) (fun cdv A outer s H vs Q E hr h=>?_)
 ·obtain⟨b,p,os,rs,F,sn,rfl,_⟩:=h
  rfl
 obtain⟨b,p,os,rs,F,sn,rfl,hB,hlen,JF,hin,hc,hd,q⟩:=h
 refine⟨_,(zj (yh (zp N8 hr T.WW (za (pv 1) zc)))
   (zj (yh (zp Ls hr T.Vp (za (Xl (pv 0) rfl) (za (pv 1) zc))))
   (zq (zL (tQ (pv 0) T.yQ T.tH tL hr (za (zp N6 hr T.NQ (za (pv 1) (za (Xl (pv 0) rfl) zc))) zc)))))),?_⟩
 have L:=uK a.zE
 have ho:=L.ord hB
 have hlt:sn.PX uw:=(Sn.UG sn).mpr fun x hx=>ho.mem x ((Sn.UG sn).mp hin x hx)
 refine⟨_,rfl,p,sn,rfl,JF,hlt,hc,hd,fun H1 g1=>?_⟩
 have hB1:=L.same hB g1
 obtain⟨dx,ml,rl,tl,nd,rv,ts,kvs,h1⟩:=hB1
 refine⟨_,rfl,b,a.zE,dx,_,_,rfl,h1.hb,T.yQ,T.Zc,rfl,_,rfl,ml,p,os,sn,rfl,zP.of h1.hm,JF.mono (xr.of g1),by omega,hin,fun H2 g2=>?_⟩
 have g12:=g1.trans g2
 have h2:=h1.frame (fun x o e _=>g2 x o e) (xr.of g2)
 refine⟨_,rfl,b,dx,_,rfl,h2.hb,rfl,_,rfl,_,rfl,b,a.zE,dx,_,_,rfl,h2.hb,T.yQ,T.Zc,rfl,p,ml,sn,os,rfl,JF.mono (xr.of g12),zP.of h2.hm,hin,ho.le,hd,fun N H3 g3 hN=>?_⟩
 have g13:=g12.trans g3
 have hB3:=L.same hB g13
 refine⟨b,os,rs,F,N,0,_,rfl,hB3,by show rs.length+512<=9000000;omega,ztz _,by have:=ho.le;omega,hN,fun i hi=>absurd hi (Nat.not_lt_zero _),fun j rs' H' aw tu hB' gr lt y ln _ hh=>?_⟩
 refine q j rs' H' (fun x o e nf=>aw x o (g13 _ _ e) nf) (fun x xs e=>tu _ _ (g13 _ _ e)) hB' gr ⟨lt,fun r=>?_⟩ (zty hh (Nat.add_le_add_left (yN.zpA ho.le) _))
 rw[y]
 refine Sn.val_congr sn hin fun x hx=>?_
 show(yN.bits r os.length).testBit (ix os x)=r (ix os x)
 exact yN.Xe r (XC hx).2.1
theorem zdZ (T:Txt P w K mg a)(J6:zF P w K mg base zY k a.Xq a.Xr Zj (SM K))(yK:zF P w K mg base zY k a.vO a.vP wR uY) :
  zF P w K mg base zY (k+1) a.Vo a.RT Vk (Ng (yV a.zE) K a.zE):=by
 refine T.JD.F.ok Lb (fun vs H Q E h=>?_) (fun cdv A outer s H vs Q E hr h=>?_)
 ·obtain⟨b,dx,l,os,rfl,_⟩:=h
  rfl
 obtain⟨b,dx,l,os,rfl,hb,bd,hl,ho,q⟩:=h
 refine⟨_,(zj (yh (zp J6 hr T.T6 (za (pv 1) zc)))
   (zj (zH 2 Lb.nd (zB zy rfl T.yu zX (za (pv 1) zc)))
   (zj (zcV (pv 0) (wF Ms rfl T.NZ Qj (za (pv 1) zc)) rfl)
   (zj (zcV (pv 0) (yM (za (uG (za (pv 2) (za zm (za zm zc)))) (za (uG (za (pv 2) (za zm (za zm zc)))) zc))) rfl)
   (zj (zcV (pv 0) (yM (za zm (za (zp yK hr T.uR (za (pv 2) zc)) zc))) rfl)
   (zq (zcV (pv 0) (zhd (V7 zm zm (V7 (zp yK hr T.uR (za (pv 2) zc)) zm zhc)) rfl rfl (List.cons_ne_nil _ _) (Nat.le_of_ble_eq_true rfl)) rfl))))))),?_⟩
 have n8:=ho.le
 have hml:(os.map V.str).length=os.length:=ztc _
 refine⟨_,rfl,l,os,rfl,hl,ho,fun H1 g1=>?_⟩
 have hl1:=g1.seq hl
 refine⟨_,rfl,l,_,rfl,.inl hl1,?_⟩
 rw[hml]
 have b1:=g1 _ _ hb
 refine⟨_,rfl,l,_,rfl,.inl hl1,fun ml hm1=>?_⟩
 have bm:b≠ml:=zA b1 hm1
 have b2:upd H1 ml (.lst (os.map V.str)) b=some (.ins a.zE dx []):=by rw[zG bm];exact b1
 refine⟨_,rfl,b,a.zE,dx,_,rfl,b2,T.yQ,T.Zc,by decide,?_⟩
 have s2:∀x o,H x=some o->x≠b->upd (upd H1 ml (.lst (os.map V.str))) b (.ins a.zE dx (Yr "marks" (.ref ml) [])) x=some o:=fun x o e nb=>by
  rw[zG nb,zG (zA (g1 _ _ e) hm1)];exact g1 _ _ e
 have hm2:upd (upd H1 ml (.lst (os.map V.str))) b (.ins a.zE dx (Yr "marks" (.ref ml) [])) ml=some (.lst (os.map V.str)):=by rw[zG (Ne.symm bm)];exact zf
 have f2:∀x,upd (upd H1 ml (.lst (os.map V.str))) b (.ins a.zE dx (Yr "marks" (.ref ml) [])) x=none->H x=none:=fun x e=>by
  have nb:x≠b:=fun z=>by rw[z,zf] at e;cases e
  cases hx:H x with
  | none=>rfl
  | some o=>rw[s2 x o hx nb] at e;cases e
 have fm:H ml=none:=g1.free hm1
 have b2':upd (upd H1 ml (.lst (os.map V.str))) b (.ins a.zE dx (Yr "marks" (.ref ml) [])) b=some (.ins a.zE dx (Yr "marks" (.ref ml) [])):=zf
 generalize upd (upd H1 ml (.lst (os.map V.str))) b (.ins a.zE dx (Yr "marks" (.ref ml) []))=H2 at s2 hm2 f2 b2'
 refine⟨_,rfl,by show 3<=sizeLine;decide,fun p0 hp0=>?_⟩
 refine⟨_,rfl,by show 3<=sizeLine;decide,fun p1 hp1=>?_⟩
 refine⟨by show 2<=sizeLine;decide,fun rl hrl=>?_⟩
 have g2:=((Same.new hp0 (.tup [.int (os.length:Nat),.int 0,.int 0])).trans (Same.new hp1 (.tup [.int (os.length:Nat),.int 1,.int 1]))).trans (Same.new hrl (.lst [.ref p0,.ref p1]))
 have hp0':=((Same.new hp1 (.tup [.int (os.length:Nat),.int 1,.int 1])).trans (Same.new hrl (.lst [.ref p0,.ref p1]))) p0 (.tup [.int (os.length:Nat),.int 0,.int 0]) zf
 have hp1':=(Same.new hrl (.lst [.ref p0,.ref p1])) p1 (.tup [.int (os.length:Nat),.int 1,.int 1]) zf
 have hr3:upd (upd (upd H2 p0 (.tup [.int (os.length:Nat),.int 0,.int 0])) p1 (.tup [.int (os.length:Nat),.int 1,.int 1])) rl (.lst [.ref p0,.ref p1]) rl=some (.lst [.ref p0,.ref p1]):=zf
 have frl:H2 rl=none:=((Same.new hp0 _).trans (Same.new hp1 _)).free hrl
 have brl:b≠rl:=zA b2' frl
 have mr:ml≠rl:=zA hm2 frl
 have b0:b≠p0:=zA b2' hp0
 have b1':b≠p1:=zA b2' ((Same.new hp0 _).free hp1)
 generalize upd (upd (upd H2 p0 (.tup [.int (os.length:Nat),.int 0,.int 0])) p1 (.tup [.int (os.length:Nat),.int 1,.int 1])) rl (.lst [.ref p0,.ref p1])=H3 at g2 hp0' hp1' hr3
 refine⟨_,rfl,b,a.zE,dx,_,rfl,g2 _ _ b2',T.yQ,T.Y9,by show 1<1000;decide,?_⟩
 generalize hfs:Yr "rooms" (V.ref rl) (Yr "marks" (V.ref ml) [])=fs3
 have u3:∀x,x≠b->upd H3 b (.ins a.zE dx fs3) x=H3 x:=fun x nb=>zG nb
 have b3:upd H3 b (.ins a.zE dx fs3) b=some (.ins a.zE dx fs3):=zf
 generalize upd H3 b (.ins a.zE dx fs3)=H4 at u3 b3
 refine⟨_,rfl,os.length,rfl,n8,by show 2<=sizeLine;decide,fun tl htl=>?_⟩
 have btl:b≠tl:=zA b3 htl
 have g4:=Same.new htl (.lst [.int 0,.int ((2^2^os.length-1:Nat):Int)])
 have ht5:upd H4 tl (.lst [.int 0,.int ((2^2^os.length-1:Nat):Int)]) tl=some (.lst [.int 0,.int ((2^2^os.length-1:Nat):Int)]):=zf
 generalize upd H4 tl (.lst [.int 0,.int ((2^2^os.length-1:Nat):Int)])=H5 at g4 ht5
 refine⟨_,rfl,b,a.zE,dx,_,rfl,g4 _ _ b3,T.yQ,T.W3,by rw[<-hfs];show 2<1000;decide,?_⟩
 generalize zn7:Yr "tables" (V.ref tl) fs3=fs4
 have u5:∀x,x≠b->upd H5 b (.ins a.zE dx fs4) x=H5 x:=fun x nb=>zG nb
 have b5:upd H5 b (.ins a.zE dx fs4) b=some (.ins a.zE dx fs4):=zf
 generalize upd H5 b (.ins a.zE dx fs4)=H6 at u5 b5
 refine fun nd hnd=>?_
 have bnd:b≠nd:=zA b5 hnd
 have g6:=Same.new hnd (.dK [])
 refine⟨_,rfl,os.length,rfl,n8,zf,[(Sum.inl 0,.int 0),(Sum.inl ((2^2^os.length-1:Nat):Int),.int 1)],rfl,(by show 2<=15;decide),?_⟩
 rw[zgI]
 have g7:=Same.new hnd (.dK (Yw [] [(Sum.inl 0,.int 0),(Sum.inl ((2^2^os.length-1:Nat):Int),.int 1)]))
 have hn7:upd H6 nd (.dK (Yw [] [(Sum.inl 0,.int 0),(Sum.inl ((2^2^os.length-1:Nat):Int),.int 1)])) nd=some (.dK (Yw [] [(Sum.inl 0,.int 0),(Sum.inl ((2^2^os.length-1:Nat):Int),.int 1)])):=zf
 generalize upd H6 nd (.dK (Yw [] [(Sum.inl 0,.int 0),(Sum.inl ((2^2^os.length-1:Nat):Int),.int 1)]))=H7 at g7 hn7
 refine⟨_,rfl,b,a.zE,dx,_,rfl,g7 _ _ b5,T.yQ,T.vZ,by rw[<-zn7,<-hfs];show 3<1000;decide,?_⟩
 have big:2^2^os.length-1≠0:=by
  have:2^1<=2^2^os.length:=ztI (by decide) Nat.one_le_two_pow
  omega
 have to7:∀x o,H3 x=some o->x≠b->upd H7 b (.ins a.zE dx (Yr "numbers" (.ref nd) fs4)) x=some o:=fun x o e nb=>by
  rw[zG nb]
  refine g7 _ _ ?_
  rw[u5 x nb]
  refine g4 _ _ ?_
  rw[u3 x nb]
  exact e
 have tl6:H6 tl=some (.lst [.int 0,.int ((2^2^os.length-1:Nat):Int)]):=by rw[u5 tl (Ne.symm btl)];exact ht5
 have efs:Yr "numbers" (.ref nd) fs4=Kw ml rl tl nd:=by rw[<-zn7,<-hfs];rfl
 have up:∀x o,H3 x=some o->x≠b->H4 x=some o:=fun x o e nb=>by rw[u3 x nb];exact e
 have mt:ml≠tl:=zA (up _ _ (g2 _ _ hm2) (Ne.symm bm)) htl
 have rt:rl≠tl:=zA (up _ _ hr3 (Ne.symm brl)) htl
 have fr4:∀x,H4 x=none->H x=none:=fun x e=>f2 x (by
  cases hx:H2 x with
  | none=>rfl
  | some o =>
   by_cases nb:x=b
   ·rw[nb,b3] at e;cases e
   ·rw[up x o (g2 _ _ hx) nb] at e;cases e)
 have fr6:∀x,H6 x=none->H x=none:=fun x e=>by
  have nb:x≠b:=fun z=>by rw[z,b5] at e;cases e
  rw[u5 x nb] at e
  exact fr4 x (g4.free e)
 have two:∀{j:Nat},j<2->j=0\/j=1:=fun h=>by omega
 have bk0:yN.Bk os.length [none,none]:=⟨rfl,rfl,fun k h1 h2=>by simp at h2;omega,fun i j x e _=>by
  have:=(ztf.mp e).1
  rcases two (by simpa using this) with z | z<;>subst z<;>cases e⟩
 refine q _ (fun x=>x=b\/x=ml\/x=rl\/x=tl\/x=nd) (fun x o e nb=>to7 x o (g2 _ _ (s2 x o e nb)) nb) ⟨dx,ml,rl,tl,nd,[.ref p0,.ref p1],[0,2^2^os.length-1],Yw [] [(Sum.inl 0,.int 0),(Sum.inl ((2^2^os.length-1:Nat):Int),.int 1)],?_⟩ (fun x hx=>?_)
 ·refine { hb:=by rw[zf,efs],hm:=to7 _ _ (g2 _ _ hm2) (Ne.symm bm),hr:=to7 _ _ hr3 (Ne.symm brl),ht:=by rw[zG (Ne.symm btl)];exact g7 _ _ tl6,hd:=by rw[zG (Ne.symm bnd)];exact hn7,mr:=mr,mt:=mt,rt:=rt,ord:=ho,bk:=bk0,len:=rfl,rm:=?_,tabs:=?_,nums:=?_,ft:=fun x=>Iff.rfl }
  ·intro j x e
   have:=(ztf.mp e).1
   rcases two (by simpa using this) with z | z<;>subst z<;>cases e
   ·exact⟨p0,rfl,to7 _ _ hp0' (Ne.symm b0)⟩
   ·exact⟨p1,rfl,to7 _ _ hp1' (Ne.symm b1')⟩
  ·refine⟨rfl,fun j t e=>?_⟩
   have:=(ztf.mp e).1
   rcases two (by simpa using this) with z | z<;>subst z<;>cases e
   ·exact yR (ZP _) fun b _=>rfl
   ·exact yR (Uy _) fun b _=>(yN.Qv bk0 _).symm
  ·have z0:Nums [] []:=⟨fun j t e=>by simp at e,fun t _=>rfl,zts _⟩
   have z1:=z0.snoc (t:=0) (by simp)
   exact z1.snoc (t:=2^2^os.length-1) (fun hm=>by simp at hm;omega)
 ·rcases hx with z | z | z | z | z<;>subst z
  ·exact .inl rfl
  ·exact .inr (.inr fm)
  ·exact .inr (.inr (f2 _ frl))
  ·exact .inr (.inr (fr4 _ htl))
  ·exact .inr (.inr (fr6 _ hnd))
theorem zid (T:Txt P w K mg a):zF P w K mg base zY (k+1) a.xR a.xT xg (zai K):=by
 refine T.yD.F.ok Ui (fun vs H Q E h=>?_) (fun cdv A outer s H vs Q E hr h=>?_)
 ·obtain⟨l,ns,i,rfl,_⟩:=h
  rfl
 obtain⟨l,ns,i,rfl,hS,q⟩:=h
 refine⟨_,(zj (yq (zJ zgO (pv 1) (zB zy rfl T.yu zX (za (pv 0) zc)) (zM _)) (zq (zL (z8 yd (pv 0) (pv 1) (fun _ _=>rfl)))) zT)
   (zq (zL zm))),?_⟩
 refine⟨_,rfl,_,rfl,l,_,rfl,.inl hS,_,_,rfl,rfl,_,rfl,?_⟩
 refine yc (fun c=>?_) (fun c=>?_)
 ·have c':(i:Int)<(((ns.map V.int).length:Nat):Int):=of_decide_eq_true c
  rw[ztc] at c'
  have hi:i<ns.length:=by omega
  have ec:vo ns i=ns[i]:=by unfold vo;rw[ztd hi];rfl
  rw[ec] at q
  exact⟨_,rfl,_,rfl,l,_,i,_,rfl,rfl,hS,yC (by rw[zte,ztd hi];rfl),q⟩
 ·have hi:ns.length<=i:=by
   refine Nat.le_of_not_lt fun hlt=>c (decide_eq_true ?_)
   rw[ztc];omega
  have ec:vo ns i=0:=by unfold vo;rw[ztM hi];rfl
  rw[ec] at q
  exact q
theorem R9 (T:Txt P w K mg a):zF P w K mg base zY (k+1) a.yX a.yZ yJ (Yx a.zE):=by
 refine T.wX.F.ok Rw (fun vs H Q E h=>?_) (fun cdv A outer s H vs Q E hr h=>?_)
 ·obtain⟨b,os,rs,F,j,rfl,_⟩:=h
  rfl
 obtain⟨b,os,rs,F,j,rfl,⟨dx,ml,rl,tl,nd,rv,ts,kvs,h⟩,hk,q⟩:=h
 refine⟨_,(zq (yq (PW.pt (Q7 (zJ zgO (pv 1) zm (zM _)) (Us (zJ zlt (pv 1) (zB zy rfl T.yu zX (za (Xl (pv 0) rfl) zc)) (zM _))))) (zq Ss) zT)),?_⟩
 have hl:=h.len
 refine⟨_,rfl,_,_,rfl,rfl,_,rfl,yc (fun c=>absurd (of_decide_eq_true c) (by omega)) (fun _=>?_)⟩
 refine⟨_,rfl,_,rfl,b,a.zE,dx,_,_,rfl,h.hb,T.yQ,T.Y9,rfl,rl,_,rfl,.inl (zP.of h.hr),_,_,rfl,rfl,_,rfl,yc (fun c=>absurd (of_decide_eq_true c) (by omega)) (fun _=>?_)⟩
 exact q
theorem K7 (T:Txt P w K mg a):zF P w K mg base zY (k+1) a.wI a.wJ xQ (XS a.zE):=by
 refine T.Zm.F.ok KR (fun vs H Q E h=>?_) (fun cdv A outer s H vs Q E hr h=>?_)
 ·obtain⟨b,os,rs,F,j,rfl,_⟩:=h
  rfl
 obtain⟨b,os,rs,F,j,rfl,⟨dx,ml,rl,tl,nd,rv,ts,kvs,h⟩,hk,q⟩:=h
 refine⟨_,(zq (zL (z8 yd (Xl (pv 0) rfl) (pv 1) (fun _ _=>rfl)))),?_⟩
 have ht:j<ts.length:=by rw[h.tabs.len];exact hk
 have ex:=ztd ht
 refine⟨_,rfl,b,a.zE,dx,_,_,rfl,h.hb,T.yQ,T.W3,rfl,_,rfl,tl,_,_,.int (ts[j]:Nat),rfl,rfl,zP.of h.ht,yC (by rw[zte,ex];rfl),?_⟩
 exact q _ (h.tabs.tab j _ ex)
theorem zbX (T:Txt P w K mg a):zF P w K mg base zY (k+1) a.vQ a.vR wM (uJ (yV a.zE)):=by
 refine T.Yo.F.ok zbO (fun vs H Q E h=>?_) (fun cdv A outer s H vs Q E hr h=>?_)
 ·obtain⟨b,os,rs,F,rfl,_⟩:=h
  rfl
 obtain⟨b,os,rs,F,rfl,⟨dx,ml,rl,tl,nd,rv,ts,kvs,h⟩,q⟩:=h
 refine⟨_,(zq (zL (wF Ms rfl T.NZ Qj (za (Xl (pv 0) rfl) zc)))),?_⟩
 exact⟨_,rfl,b,a.zE,dx,_,_,rfl,h.hb,T.yQ,T.Zc,rfl,ml,_,rfl,.inl (zP.of h.hm),fun l hl=>q l _ (Same.new hl _) hl zf⟩
theorem zgz (T:Txt P w K mg a)(TQ:zF P w K mg base zY k a.Yi a.Yj tD V9)(uh:zF P w K mg base zY k a.tZ a.Za uf (MF K 20)) :
  zF P w K mg base zY (k+1) a.RX a.RZ Vn (zaX K):=by
 refine T.JC.F.ok zdP (fun vs H Q E h=>?_) (fun cdv A outer s H vs Q E hr h=>?_)
 ·obtain⟨p,l,sn,os,rfl,_⟩:=h
  rfl
 obtain⟨p,l,sn,os,rfl,JF,hO,hin,h8,hd,q⟩:=h
 refine⟨_,(zq (zL (zc2 (wV:=zu Rz) (js:=[0,1]) rfl (by show uX _ _ "row" ["sentence", "order"];exact Ku (by decide +kernel)) rfl (yF (zp TQ hr T.Tz (za (zB zy rfl T.yu zX (za (pv 1) zc)) zc))) (by show ∀j∈([0,1]:List Nat),j<2;decide) (fun cl C s₂ H₂ fp=>(zJ yH (zp uh hr T.ug (za (pv 1) (za (pv 2) (za (pv 0) zc)))) zm (zM _))) (fun cl C s₂ H₂ fp=>(pv 0))))),?_⟩
 refine⟨_,rfl,l,_,rfl,.inl hO,os.length,by rw[ztc];rfl,h8,fun rl H1 es g1 frl hrl he=>?_⟩
 have el:=yU he
 have zpL:(yN.allR os.length).length<=256:=by rw[yN.V8];exact zty (ztI (n:=2) (by decide) h8) (by decide)
 refine⟨rl,rfl,⟨_,zP.of hrl⟩,?_⟩
 refine zgW (xs:=es.map V.ref) (fun m ys H'=>Same H1 H'/\∃ws:List Addr,ys=ws.map V.ref/\Paired (zf6 H H') ws (((yN.allR os.length).take m).filter fun r=>sn.val (xP os (zx r)))) ⟨Same.refl _,[],rfl,.nil⟩ (by rw[ztc];exact ztv (zO (by omega))) ?_ ?_ ?_ ?_ ?_
 ·rintro m ys H' hm ⟨gg,ws,rfl,hw⟩
  have:=yU hw
  have:=ztL (fun r=>sn.val (xP os (zx r))) ((yN.allR os.length).take m)
  rw[ztA] at this
  exact⟨zP.of (gg _ _ hrl),by rw[ztc];omega⟩
 ·rintro m x ys H' hx ⟨gg,ws,rfl,hw⟩
  rw[zte] at hx
  cases hp:es[m]? with
  | none=>rw[hp] at hx;cases hx
  | some rp =>
   rw[hp] at hx
   cases hx
   obtain⟨r,hr',fr,ar⟩:=tO he hp
   have rlen:=yN.vY os.length r (zth hr')
   have gA:=g1.trans gg
   refine⟨_,rfl,_,rfl,_,rfl,p,l,rp,sn,os,r,rfl,JF.mono (xr.of gA),gA.seq hO,zP.of (gg _ _ ar),hin,h8,rlen,hd,fun H3 g3=>?_⟩
   refine⟨rfl,_,rfl,?_⟩
   have ed:decide (V.int ((sn.val (xP os (zx r))).toNat:Nat)=V.int 1)=sn.val (xP os (zx r)):=by cases sn.val (xP os (zx r))<;>decide
   rw[ed,yj hr',ztQ]
   have gB:=gg.trans g3
   have hwB:Paired (zf6 H H3) ws _:=yO (fun _ _ z=>⟨z.1,g3 _ _ z.2⟩) hw
   cases hn:sn.val (xP os (zx r))
   ·refine yr ⟨gB,ws,rfl,?_⟩
    rw[List.filter_cons_of_neg (by rw[hn];exact ztg),List.filter_nil,List.append_nil]
    exact hwB
   ·refine Wh ⟨_,rfl,gB,ws++[rp],by rw[ztq];rfl,?_⟩
    rw[List.filter_cons_of_pos (p:=fun r=>sn.val (xP os (zx r))) hn]
    exact Xn hwB (.cons ⟨fr,gB _ _ ar⟩ .nil)
 ·rintro σ' H' Q1 Q2 hQ ⟨v1,e1,v2,e2,v3,e3,p',l',rl',s',os',r',y1,y2,y3,y4,y5,y6,y7,y8,y9⟩
  exact⟨v1,e1,v2,e2,v3,e3,p',l',rl',s',os',r',y1,y2,y3,y4,y5,y6,y7,y8,fun H0 g0=>let ⟨s1,b',z6,z7⟩:=y9 H0 g0;⟨s1,b',z6,hQ _ _ z7⟩⟩
 ·rintro σ' H' Q1 Q2 hQ ⟨v,e1,z⟩
  exact⟨v,e1,hQ _ _ z⟩
 ·rintro ys H' yp ⟨gg,ws,rfl,hw⟩ hyp
  rw[ztc,el,ztF] at hw
  have gn:=Same.new hyp (.lst (ws.map V.ref))
  exact q yp _ ws (g1.trans (gg.trans gn)) ((g1.trans gg).free hyp) zf (yO (fun _ _ z=>⟨z.1,gn _ _ z.2⟩) hw)
theorem zgA (T:Txt P w K mg a):zF P w K mg base zY (k+1) a.X7 a.X8 Yz X3:=by
 refine T.QS.F.ok zgn (fun vs H Q E h=>?_) (fun cdv A outer s H vs Q E hr h=>?_)
 ·obtain⟨N,M,n,f,g,rfl,_⟩:=h
  rfl
 obtain⟨N,M,n,f,g,rfl,tb,tg,q⟩:=h
 refine⟨_,(zq (zL (zK Qm (pv 0) (zK Zg (pv 0) (pv 1))))),?_⟩
 refine⟨_,rfl,_,rfl,_,rfl,N,M,rfl,rfl,N,N&&&M,rfl,rfl,q _ (yR (xV.Uz tb (xV.Zf tb tg)) fun b _=>?_)⟩
 show(f b != (f b&&g b))=(f b&&!g b)
 cases f b<;>cases g b<;>rfl
theorem J7 (T:Txt P w K mg a)(xO:zF P w K mg base zY k a.YD a.YF Zy Wj):zF P w K mg base zY (k+1) a.Wy a.Wz Z2 (Vv K):=by
 refine T.R3.F.ok wG (fun vs H Q E h=>?_) (fun cdv A outer s H vs Q E hr h=>?_)
 ·obtain⟨N,n,f,pl,ps,rfl,_⟩:=h
  rfl
 obtain⟨N,n,f,pl,ps,rfl,hn,tb,hpl,hps,zqR,q⟩:=h
 refine⟨_,(zj (zH 3 wG.nd (yM zc))
   (zj (xX PassesOwn.never rfl (yF (pv 1)) (yw (i:=4) wG.nd rfl (Or.inl rfl)) (zj (zH 5 wG.nd (zp xO hr T.YJ (za (pv 0) (za (pv 4) (za zm (za (pv 2) zc))))))
   (zj (zH 6 wG.nd (Mi (zJ TV (pv 5) zm (zM _)) zm zm))
   (zj (zH 0 wG.nd (zp xO hr T.YJ (za (pv 0) (za (pv 4) (za (pv 6) (za (pv 2) zc))))))
   (zq (yh (vf PySem.F.plainAttrs_list PySem.F.slot_list_append PySem.F.type_list_append uW (pv 3) (za (pv 6) zc))))))))
   (zq (zL (pv 3))))),?_⟩
 refine⟨by show 0<=sizeLine;decide,fun l hl=>?_⟩
 have g0:=Same.new hl (.lst [])
 refine⟨_,rfl,pl,rfl,⟨_,g0.seq hpl⟩,?_⟩
 refine vV (xs:=ps.map fun p=>V.int (p:Nat)) (fun i σ H'=>∃(M:Nat) (g:Nat->Bool) (r:List Bool) (f4 f5 f6:Option V),Same H H'/\H' l=some (.lst (zZ r))/\z9 n M g/\r.length=i/\yN.fvP n f ps=r++yN.fvP n g (ps.drop i)/\σ=[some (.int M),some (.ref pl),some (.int n),some (.ref l),f4,f5,f6])
  ⟨N,f,[],_,_,_,g0,zf,tb,rfl,rfl,rfl⟩ ?_ ?_ ?_
 ·rintro i σ H' _ ⟨M,g,r,f4,f5,f6,gg,_⟩
  exact gg.seq hpl
 ·rintro i x σ H' hx ⟨M,g,r,f4,f5,f6,gg,hL,tg,hr',e,rfl⟩
  rw[zte] at hx
  cases hp:ps[i]? with
  | none=>rw[hp] at hx;cases hx
  | some p =>
   rw[hp] at hx
   cases hx
   have hpn:=hps p (zth hp)
   obtain⟨lt,e'⟩:=ztf.mp hp
   rw[List.drop_eq_getElem_cons lt,e'] at e
   refine⟨_,rfl,_,rfl,_,rfl,M,p,n,false,g,rfl,hpn,hn,tg,fun R tr=>?_⟩
   have tz:=yN.ZP tr
   refine⟨_,rfl,rfl,_,rfl,?_⟩
   have ee:(!decide (V.int (R:Nat)=V.int 0))=yN.anyB n fun b=>g (zQ b p false):=by
    cases hz:yN.anyB n fun b=>g (zQ b p false) with
    | true =>
     rw[hz] at tz
     rw[decide_eq_false fun z=>by injection z with z;exact absurd (decide_eq_true (show R=0 by omega)) (by rw[tz];exact ztg)]
     rfl
    | false =>
     rw[hz] at tz
     have z:R=0:=of_decide_eq_true tz
     subst z
     rfl
   rw[ee]
   cases hz:yN.anyB n fun b=>g (zQ b p false) with
   | true =>
    refine yc (fun _=>?_) (fun c=>absurd rfl c)
    refine⟨_,rfl,_,rfl,_,rfl,_,rfl,M,p,n,false,g,rfl,hpn,hn,tg,fun R2 t2=>?_⟩
    refine⟨_,rfl,.inl ⟨rfl,_,zP.of hL⟩,_,rfl,l,_,_,rfl,rfl,hL,?_,?_⟩
    ·unfold zZ;rw[ztc,hr'];exact zO (by omega)
    ·refine⟨R2,_,r++[false],_,_,_,gg.over hl _,by rw[zf];unfold zZ;rw[ztq];rfl,t2,by rw[ztk,hr'];rfl,?_,rfl⟩
     rw[e,List.append_assoc]
     show r++(_::_)=r++([false]++_)
     rw[hz]
     rfl
   | false =>
    refine yc (fun c=>absurd c ztg) (fun _=>?_)
    refine⟨_,rfl,_,rfl,_,rfl,_,rfl,M,p,n,true,g,rfl,hpn,hn,tg,fun R2 t2=>?_⟩
    refine⟨_,rfl,.inl ⟨rfl,_,zP.of hL⟩,_,rfl,l,_,_,rfl,rfl,hL,?_,?_⟩
    ·unfold zZ;rw[ztc,hr'];exact zO (by omega)
    ·refine⟨R2,_,r++[true],_,_,_,gg.over hl _,by rw[zf];unfold zZ;rw[ztq];rfl,t2,by rw[ztk,hr'];rfl,?_,rfl⟩
     rw[e,List.append_assoc]
     show r++(_::_)=r++([true]++_)
     rw[hz]
     rfl
 ·rintro σ H' ⟨M,g,r,f4,f5,f6,gg,hL,tg,hr',e,rfl⟩
  rw[ztc,List.drop_length] at e
  have e1:yN.fvP n f ps=r:=by rw[e];exact List.append_nil _
  refine⟨_,rfl,q l H' gg hl ?_⟩
  rw[e1]
  exact hL
theorem zd0 (T:Txt P w K mg a)(zbs:zF P w K mg base zY k a.Wy a.Wz Z2 (Vv K)):zF P w K mg base zY (k+1) a.RK a.RL Ve Nh:=by
 refine T.Jy.F.ok zdK (fun vs H Q E h=>?_) (fun cdv A outer s H vs Q E hr h=>?_)
 ·obtain⟨N,n,f,rfl,_⟩:=h
  rfl
 obtain⟨N,n,f,rfl,hn,tb,any,q⟩:=h
 refine⟨_,(zq (zL (zp zbs hr T.R3 (za (pv 0) (za (zdn rfl rfl T.NZ rfl T.uE (za (pv 1) zc)) (za (pv 1) zc)))))),?_⟩
 refine⟨_,rfl,_,rfl,n,rfl,by omega,fun pl hpl=>?_⟩
 have g0:=Same.new hpl (.lst (Jo n))
 refine⟨_,rfl,N,n,f,pl,List.range n,rfl,hn,tb,zP.of zf,fun p hp=>List.mem_range.mp hp,by rw[ztu];omega,fun l H' g hl hl'=>?_⟩
 exact q l H' _ (g0.trans g) (g0.free hl) hl' (yN.zf8 any)
theorem zbt {d:Nat}(T:Txt P w K mg a)(uh:zF P w K mg base zY k a.tZ a.Za uf (MF K d)):zF P w K mg base zY (k+1) a.tZ a.Za uf (MF K (d+1)):=by
 refine T.ug.F.ok wB (fun vs H Q E h=>?_) (fun cdv A outer s H vs Q E hr h=>?_)
 ·obtain⟨p,l,rl,sn,os,r,rfl,_⟩:=h
  rfl
 obtain⟨p,l,rl,sn,os,r,rfl,JF,hO,hR,hin,h8,hrl,hd,q⟩:=h
 refine⟨_,(zj (zH 3 wB.nd (z8 vd (pv 0) zm (fun _ _=>rfl)))
   (zj (yq (zJ Qh (pv 3) (uG (za yg (za yg zc))) (by with_unfolding_all rfl)) (zq (zL (wF Ke rfl T.zhw zc5 (za (xK yH (pv 3) yg (zM _)) zc)))) zT)
   (zj (yq (zJ yH (pv 3) yg (zM _)) (zq (zL (z8 yd (pv 2) (vf PySem.F.plainAttrs_list PySem.F.slot_list_index PySem.F.type_list_index Sw (pv 1) (za (z8 vd (pv 0) zm (fun _ _=>rfl)) zc)) (fun _ _=>rfl)))) zT)
   (zj (yq (zJ Qh (pv 3) (uG (za yg (za yg zc))) (by with_unfolding_all rfl)) (zj (zH 6 wB.nd (vf PySem.F.plainAttrs_list PySem.F.slot_list_index PySem.F.type_list_index Sw (pv 1) (za (z8 vd (pv 0) zm (fun _ _=>rfl)) zc)))
   (zj (zH 7 wB.nd (zp uh hr T.ug (za (z8 vd (pv 0) zm (fun _ _=>rfl)) (za (pv 1) (za (zK U3 (zK U3 (wK zad (pv 2) uV (vL (pv 6))) (yM (za zm zc))) (wK zad (pv 2) (vL (zK xH (pv 6) zm)) uV)) zc)))))
   (zj (zH 8 wB.nd (zp uh hr T.ug (za (z8 vd (pv 0) zm (fun _ _=>rfl)) (za (pv 1) (za (zK U3 (zK U3 (wK zad (pv 2) uV (vL (pv 6))) (yM (za zm zc))) (wK zad (pv 2) (vL (zK xH (pv 6) zm)) uV)) zc)))))
   (zq (zL (Mi (zJ yH (pv 3) yg (zM _)) (zB (V1 rfl) rfl T.zfd zaV (za (pv 7) (za (pv 8) zc))) (zB (zhI rfl) rfl T.zn1 zmz (za (pv 7) (za (pv 8) zc))))))))) zT)
   (zj (zH 4 wB.nd (zp uh hr T.ug (za (z8 vd (pv 0) zm (fun _ _=>rfl)) (za (pv 1) (za (pv 2) zc)))))
   (zj (yq (zJ yH (pv 3) yg (zM _)) (zq (zL (zK Kc zm (pv 4)))) zT)
   (zj (zH 5 wB.nd (zp uh hr T.ug (za (z8 vd (pv 0) zm (fun _ _=>rfl)) (za (pv 1) (za (pv 2) zc)))))
   (zq (zL (zdj (zch hr) (zhd (V7 yg (zK Kd (pv 4) (pv 5)) (V7 yg (zB (V1 rfl) rfl T.zfd zaV (za (pv 4) (za (pv 5) zc))) (V7 yg (wF Ke rfl T.zhw zc5 (za (xK TV (pv 4) (pv 5) (zM _)) zc)) (V7 yg (zB (V1 rfl) rfl T.zfd zaV (za (zK Kc zm (pv 4)) (za (pv 5) zc))) zhc)))) rfl rfl (List.cons_ne_nil _ _) (Nat.le_of_ble_eq_true rfl)) (pv 3) (fun _ _=>rfl))))))))))),?_⟩
 obtain⟨zs,c1,c2,c3,c4,c5⟩:=Qq JF
 refine⟨_,rfl,p,_,0,_,rfl,rfl,wY.of c1,at0,?_⟩
 refine⟨_,rfl,by show 2<=sizeLine;decide,fun z1 hz1=>⟨z1,_,rfl,.inr (wY.of zf),rfl,rfl,_,rfl,?_⟩⟩
 have g1:=Same.new hz1 (.tup [.str "yes", .str "no"])
 cases sn with
 | c0 y =>
  cases y with
  | true=>exact yc (fun _=>⟨_,rfl,rfl,.inr ⟨_,rfl,q _ g1⟩⟩) (fun c=>absurd (zdg (.inl rfl)) c)
  | false=>exact yc (fun _=>⟨_,rfl,rfl,.inr ⟨_,rfl,q _ g1⟩⟩) (fun c=>absurd (zdg (.inr rfl)) c)
 | mk x =>
  refine yc (fun c=>absurd c (Ks (show Str.ofString "mark" ≠ Str.ofString "yes" by decide +kernel) (show Str.ofString "mark" ≠ Str.ofString "no" by decide +kernel))) (fun _=>?_)
  have isp':H p=some (.tup [.str "mark", .str x]):=JF
  obtain⟨i1,i2,i3⟩:=XC (show x∈os from hin)
  refine⟨_,rfl,rfl,_,rfl,yc (fun _=>?_) (fun c=>absurd (decide_eq_true rfl) c)⟩
  refine⟨_,rfl,_,rfl,.inl ⟨rfl,_,g1.seq hO⟩,_,rfl,p,_,1,_,rfl,rfl,wY.of (g1 _ _ isp'),at1,l,_,.str x,_,rfl,rfl,g1.seq hO,rfl,Yu _,i1,rl,_,_,_,rfl,rfl,g1.seq hR,yC (zkD (by rw[hrl];exact i2)),?_⟩
  rw[<-wg]
  exact q _ g1
 | nt s1 =>
  refine yc (fun c=>absurd c (Ks (show Str.ofString "not" ≠ Str.ofString "yes" by decide +kernel) (show Str.ofString "not" ≠ Str.ofString "no" by decide +kernel))) (fun _=>?_)
  refine⟨_,rfl,rfl,_,rfl,yc (fun c=>absurd c (ne_str (show Str.ofString "not" ≠ Str.ofString "mark" by decide +kernel))) (fun _=>?_)⟩
  refine⟨_,rfl,by show 2<=sizeLine;decide,fun z2 hz2=>⟨z2,_,rfl,.inr (wY.of zf),rfl,rfl,_,rfl,?_⟩⟩
  refine yc (fun c=>absurd c (Ks (show Str.ofString "not" ≠ Str.ofString "some" by decide +kernel) (show Str.ofString "not" ≠ Str.ofString "each" by decide +kernel))) (fun _=>?_)
  have g2:=g1.trans (Same.new hz2 (.tup [.str "some", .str "each"]))
  obtain⟨q1,e1,is1⟩:=JF
  have dp:s1.depth<=d:=by have:1+s1.depth<=d+1:=hd;omega
  refine⟨_,rfl,p,_,1,_,rfl,rfl,wY.of (g2 _ _ e1),at1,_,rfl,_,rfl,q1,l,rl,s1,os,r,rfl,is1.mono (xr.of g2),g2.seq hO,g2.seq hR,hin,h8,hrl,dp,fun H3 g3=>?_⟩
  refine⟨_,rfl,rfl,_,rfl,yc (fun _=>?_) (fun c=>absurd (decide_eq_true rfl) c)⟩
  refine⟨_,rfl,1,_,rfl,rfl,?_⟩
  have e:(1:Int)-(((s1.val (xP os (zx r))).toNat:Nat):Int)=(((!s1.val (xP os (zx r))).toNat:Nat):Int):=by cases s1.val (xP os (zx r))<;>rfl
  show Q (.int ((1:Int)-(((s1.val (xP os (zx r))).toNat:Nat):Int))) H3
  rw[e]
  exact q _ (g2.trans g3)
 | b2 o s1 s2 =>
  have w0:w2 o≠Str.ofString "yes" := zi4 o
  have w1:w2 o≠Str.ofString "no" := zly o
  have w3:w2 o≠Str.ofString "mark" := zg2 o
  have w4:w2 o≠Str.ofString "not" := zi5 o
  have w5:w2 o≠Str.ofString "some" := zg3 o
  have w6:w2 o≠Str.ofString "each" := zg4 o
  refine yc (fun c=>absurd c (Ks w0 w1)) (fun _=>?_)
  refine⟨_,rfl,rfl,_,rfl,yc (fun c=>absurd c (ne_str w3)) (fun _=>?_)⟩
  refine⟨_,rfl,by show 2<=sizeLine;decide,fun z2 hz2=>⟨z2,_,rfl,.inr (wY.of zf),rfl,rfl,_,rfl,?_⟩⟩
  refine yc (fun c=>absurd c (Ks w5 w6)) (fun _=>?_)
  have g2:=g1.trans (Same.new hz2 (.tup [.str "some", .str "each"]))
  obtain⟨q1,q2,e1,is1,is2⟩:=JF
  have dp:1+max s1.depth s2.depth<=d+1:=hd
  refine⟨_,rfl,p,_,1,_,rfl,rfl,wY.of (g2 _ _ e1),at1,_,rfl,_,rfl,q1,l,rl,s1,os,r,rfl,is1.mono (xr.of g2),g2.seq hO,g2.seq hR,hin.1,h8,hrl,by omega,fun H3 g3=>?_⟩
  have g23:=g2.trans g3
  refine⟨_,rfl,rfl,_,rfl,yc (fun c=>absurd c (ne_str w4)) (fun _=>?_)⟩
  refine⟨_,rfl,p,_,2,_,rfl,rfl,wY.of (g23 _ _ e1),at2,_,rfl,_,rfl,q2,l,rl,s2,os,r,rfl,is2.mono (xr.of g23),g23.seq hO,g23.seq hR,hin.2,h8,hrl,by omega,fun H4 g4=>?_⟩
  have g24:=g23.trans g4
  have q':∀H5,Same H4 H5->Q (.int (((Sn.op2 o (s1.val (xP os (zx r))) (s2.val (xP os (zx r)))).toNat:Nat):Int)) H5:=fun H5 g5=>q _ (g24.trans g5)
  clear q
  generalize s1.val (xP os (zx r))=A1 at q' ⊢
  generalize s2.val (xP os (zx r))=A2 at q' ⊢
  refine fun dp hdp=>?_
  refine⟨_,rfl,_,rfl,_,_,rfl,rfl,.inl ?_,?_⟩
  ·cases A1<;>exact⟨by decide,by decide⟩
  refine⟨_,rfl,_,rfl,_,_,rfl,?_⟩
  refine⟨_,rfl,_,rfl,rfl,.inr ⟨_,rfl,?_⟩⟩
  refine⟨_,rfl,1,_,rfl,rfl,_,rfl,_,_,rfl,?_⟩
  refine⟨zf,([(Sum.inr "and", _),(Sum.inr "or", _),(Sum.inr "either", _),(Sum.inr "if", _)]:List (Key×V)),rfl,(by show 4<=15;decide),?_⟩
  rw[zgI]
  have gd:=Same.new hdp (.dK (Yw [] ([(Sum.inr "and", V.int ((A1.toNat:Int)*(A2.toNat:Int))),(Sum.inr "or", V.int (if (A2.toNat:Int) > (A1.toNat:Int) then (A2.toNat:Int) else (A1.toNat:Int))),(Sum.inr "either", V.int (if (!decide (V.int (A1.toNat:Nat)=V.int (A2.toNat:Nat)))=true then 1 else 0)),(Sum.inr "if", V.int (if (A2.toNat:Int) > 1-(A1.toNat:Int) then (A2.toNat:Int) else 1-(A1.toNat:Int)))]:List (Key×V))))
  have z:=JL.k (k:=(Sum.inr (w2 o):Key)) (zf (H:=H4) (a:=dp) (o:=.dK (Yw [] ([(Sum.inr "and", V.int ((A1.toNat:Int)*(A2.toNat:Int))),(Sum.inr "or", V.int (if (A2.toNat:Int) > (A1.toNat:Int) then (A2.toNat:Int) else (A1.toNat:Int))),(Sum.inr "either", V.int (if (!decide (V.int (A1.toNat:Nat)=V.int (A2.toNat:Nat)))=true then 1 else 0)),(Sum.inr "if", V.int (if (A2.toNat:Int) > 1-(A1.toNat:Int) then (A2.toNat:Int) else 1-(A1.toNat:Int)))]:List (Key×V)))))
  rw[znO] at z
  refine⟨_,rfl,dp,_,rfl,z,?_⟩
  have q2:=q' _ gd
  rcases zmq o with e | e | e | e<;>subst e<;>cases A1<;>cases A2<;>exact q2
 | q1 o x s1 =>
  obtain⟨hx,hs1⟩:=hin
  obtain⟨i1,i2,i3⟩:=XC hx
  have wq:(Sn.q1 o x s1).word≠Str.ofString "yes" /\ (Sn.q1 o x s1).word≠Str.ofString "no" /\ (Sn.q1 o x s1).word≠Str.ofString "mark" := by
   rw[zda];exact znC o
  have wi:(Sn.q1 o x s1).word=Str.ofString "some" \/ (Sn.q1 o x s1).word=Str.ofString "each" := by cases o;exact .inr rfl;exact .inl rfl
  refine yc (fun c=>absurd c (Ks wq.1 wq.2.1)) (fun _=>?_)
  refine⟨_,rfl,rfl,_,rfl,yc (fun c=>absurd c (ne_str wq.2.2)) (fun _=>?_)⟩
  refine⟨_,rfl,by show 2<=sizeLine;decide,fun z2 hz2=>⟨z2,_,rfl,.inr (wY.of zf),rfl,rfl,_,rfl,?_⟩⟩
  refine yc (fun _=>?_) (fun c=>absurd (zdg wi) c)
  have g2:=g1.trans (Same.new hz2 (.tup [.str "some", .str "each"]))
  obtain⟨qq,e1',is1⟩:=JF
  have e1:H p=some (.tup [.str (Sn.q1 o x s1).word,.str x,.ref qq]):=by rw[zda];exact e1'
  have dp:s1.depth<=d:=by have:1+s1.depth<=d+1:=hd;omega
  have hlr:(zZ r).length=r.length:=ztc _
  have ixr:ix os x<r.length:=by rw[hrl];exact i2
  have l9:r.length<=8:=by rw[hrl];exact h8
  refine⟨_,rfl,.inl ⟨rfl,_,g2.seq hO⟩,_,rfl,p,_,1,_,rfl,rfl,wY.of (g2 _ _ e1),at1,l,_,.str x,_,rfl,rfl,g2.seq hO,rfl,Yu _,i1,?_⟩
  refine⟨_,rfl,p,_,2,_,rfl,rfl,wY.of (g2 _ _ e1),at2,_,rfl,_,rfl,_,rfl,_,rfl,rl,_,rfl,g2.seq hR,fun sa5 zpM=>?_⟩
  rw[zeA] at *
  have ga5:=g2.trans (Same.new zpM (.lst ((zZ r).take (ix os x))))
  refine⟨by show 1<=sizeLine;decide,fun sb5 zoa=>?_⟩
  have gb5:=ga5.trans (Same.new zoa (.lst [.int 0]))
  have ea5:=(Same.new zoa (.lst [.int 0])) sa5 (.lst ((zZ r).take (ix os x))) zf
  refine⟨sa5,sb5,_,_,rfl,rfl,zP.of ea5,zP.of zf,by rw[ztA,hlr];exact ztv (zO (by show min _ _+1<=1000;omega)),fun sc5 zpN=>?_⟩
  have gc5:=gb5.trans (Same.new zpN (.lst ((zZ r).take (ix os x)++[.int 0])))
  refine⟨_,rfl,_,rfl,_,1,rfl,rfl,_,rfl,rl,_,rfl,gc5.seq hR,fun sd5 zob=>?_⟩
  have ei5:QV (zZ r) (some ((ix os x:Nat)+1)) none=(zZ r).drop (ix os x+1):=zeE (n:=ix os x+1)
  rw[ei5] at *
  have gd5:=gc5.trans (Same.new zob (.lst ((zZ r).drop (ix os x+1))))
  have ec5:=(Same.new zob (.lst ((zZ r).drop (ix os x+1)))) sc5 (.lst ((zZ r).take (ix os x)++[.int 0])) zf
  refine⟨sc5,sd5,_,_,rfl,rfl,zP.of ec5,zP.of zf,by rw[ztk,ztA,List.length_drop,hlr];exact ztv (zO (by show min _ _+1+_<=1000;omega)),fun se5 zpO=>?_⟩
  have er5:(zZ r).take (ix os x)++[V.int 0]++(zZ r).drop (ix os x+1)=zZ (r.set (ix os x) false):=zhe ixr false
  rw[er5]
  have ge5:=gd5.trans (Same.new zpO (.lst (zZ (r.set (ix os x) false))))
  refine⟨qq,l,se5,s1,os,r.set (ix os x) false,rfl,is1.mono (xr.of ge5),ge5.seq hO,zP.of zf,hs1,h8,by rw[List.length_set];exact hrl,dp,fun H5 gf5=>?_⟩
  rw[zg5 hs1 hx hrl]
  have gg5:=ge5.trans gf5
  refine⟨_,rfl,p,_,2,_,rfl,rfl,wY.of (gg5 _ _ e1),at2,_,rfl,_,rfl,_,rfl,_,rfl,rl,_,rfl,gg5.seq hR,fun sa6 zpR=>?_⟩
  rw[zeA] at *
  have ga6:=gg5.trans (Same.new zpR (.lst ((zZ r).take (ix os x))))
  refine⟨by show 1<=sizeLine;decide,fun sb6 zoc=>?_⟩
  have gb6:=ga6.trans (Same.new zoc (.lst [.int 1]))
  have ea6:=(Same.new zoc (.lst [.int 1])) sa6 (.lst ((zZ r).take (ix os x))) zf
  refine⟨sa6,sb6,_,_,rfl,rfl,zP.of ea6,zP.of zf,by rw[ztA,hlr];exact ztv (zO (by show min _ _+1<=1000;omega)),fun sc6 zpS=>?_⟩
  have gc6:=gb6.trans (Same.new zpS (.lst ((zZ r).take (ix os x)++[.int 1])))
  refine⟨_,rfl,_,rfl,_,1,rfl,rfl,_,rfl,rl,_,rfl,gc6.seq hR,fun sd6 zod=>?_⟩
  have ei6:QV (zZ r) (some ((ix os x:Nat)+1)) none=(zZ r).drop (ix os x+1):=zeE (n:=ix os x+1)
  rw[ei6] at *
  have gd6:=gc6.trans (Same.new zod (.lst ((zZ r).drop (ix os x+1))))
  have ec6:=(Same.new zod (.lst ((zZ r).drop (ix os x+1)))) sc6 (.lst ((zZ r).take (ix os x)++[.int 1])) zf
  refine⟨sc6,sd6,_,_,rfl,rfl,zP.of ec6,zP.of zf,by rw[ztk,ztA,List.length_drop,hlr];exact ztv (zO (by show min _ _+1+_<=1000;omega)),fun se6 zpT=>?_⟩
  have er6:(zZ r).take (ix os x)++[V.int 1]++(zZ r).drop (ix os x+1)=zZ (r.set (ix os x) true):=zhe ixr true
  rw[er6]
  have ge6:=gd6.trans (Same.new zpT (.lst (zZ (r.set (ix os x) true))))
  refine⟨qq,l,se6,s1,os,r.set (ix os x) true,rfl,is1.mono (xr.of ge6),ge6.seq hO,zP.of zf,hs1,h8,by rw[List.length_set];exact hrl,dp,fun H6 gf6=>?_⟩
  rw[zg5 hs1 hx hrl]
  have gg6:=ge6.trans gf6
  have q':Q (.int ((((Sn.q1 o x s1).val (xP os (zx r))).toNat:Nat):Int)) H6:=q _ gg6
  clear q
  cases o with
  | true =>
   refine⟨_,rfl,rfl,_,rfl,yc (fun _=>?_) (fun c=>absurd (decide_eq_true rfl) c)⟩
   refine⟨_,rfl,_,rfl,_,_,rfl,?_⟩
   have e9:((((Sn.q1 true x s1).val (xP os (zx r))).toNat:Nat):Int)=(((s1.val (fun y=>if y=x then true else xP os (zx r) y)||s1.val (fun y=>if y=x then false else xP os (zx r) y)).toNat:Nat):Int):=rfl
   rw[e9] at q'
   revert q'
   cases s1.val (fun y=>if y=x then true else xP os (zx r) y)<;>cases s1.val (fun y=>if y=x then false else xP os (zx r) y)<;>exact id
  | false =>
   refine⟨_,rfl,rfl,_,rfl,yc (fun c=>absurd c (ne_str (show Str.ofString "each" ≠ Str.ofString "some" by decide +kernel))) (fun _=>?_)⟩
   refine⟨_,rfl,_,rfl,_,_,rfl,?_⟩
   have e9:((((Sn.q1 false x s1).val (xP os (zx r))).toNat:Nat):Int)=(((s1.val (fun y=>if y=x then true else xP os (zx r) y)&&s1.val (fun y=>if y=x then false else xP os (zx r) y)).toNat:Nat):Int):=rfl
   rw[e9] at q'
   revert q'
   cases s1.val (fun y=>if y=x then true else xP os (zx r) y)<;>cases s1.val (fun y=>if y=x then false else xP os (zx r) y)<;>exact id
theorem zcK (T:Txt P w K mg a):∀d:Nat,zF P w K mg base zY (k+d) a.tZ a.Za uf (MF K d)
 | 0=>by
  refine⟨fun vs H Q E h=>?_,fun A outer s H args us vs Q E _ _ _ _ h=>?_⟩
  ·obtain⟨p,l,rl,sn,os,r,rfl,_⟩:=h
   rfl
  ·obtain⟨p,l,rl,sn,os,r,_,_,_,_,_,_,_,hd,_⟩:=h
   have:=Sn.Qk sn
   omega
 | d+1=>zbt T (zcK T d)
theorem zfl (T:Txt P w K mg a):zF P w K mg base zY (k+1) a.Yi a.Yj tD V9:=by
 refine T.Tz.F.ok ud (fun vs H Q E h=>?_) (fun cdv A outer s H vs Q E hr h=>?_)
 ·obtain⟨n,rfl,_⟩:=h
  rfl
 obtain⟨n,rfl,n8,q⟩:=h
 refine⟨_,(zj (zH 1 ud.nd (yM (za (yM zc) zc)))
   (zj (xX PassesOwn.never rfl (wZ rfl T.uE (za (pv 0) zc)) (yw (i:=2) ud.nd rfl (Or.inl rfl)) (zj (zH 3 ud.nd (yM zc))
   (zj (xX PassesOwn.never rfl (yF (pv 1)) (yw (i:=4) ud.nd rfl (Or.inl rfl)) (zq (yh (vf PySem.F.plainAttrs_list PySem.F.slot_list_extend PySem.F.type_list_extend Kh (pv 3) (za (yM (za (zK (zaZ rfl) (pv 4) (yM (za zm zc))) (za (zK (zaZ rfl) (pv 4) (yM (za zm zc))) zc))) zc)))))
   (zq (zH 1 ud.nd (pv 3))))))
   (zq (zL (pv 1))))),?_⟩
 have p256:∀i,i<=n->(yN.allR i).length<=256:=fun i hi=>by rw[yN.V8];exact zty (ztI (n:=2) (by decide) (show i<=8 by omega)) (by decide)
 refine⟨by show 0<=sizeLine;decide,fun q0 hq0=>⟨by show 1<=sizeLine;decide,fun l0 hl0=>?_⟩⟩
 have g0:=(Same.new hq0 (.lst [])).trans (Same.new hl0 (.lst [.ref q0]))
 have e2:=(Same.new hl0 (.lst [.ref q0])) q0 (.lst []) zf
 have fl0:H l0=none:=(Same.new hq0 _).free hl0
 refine⟨_,rfl,(n:Int),rfl,by omega,by omega,?_⟩
 rw[ztP]
 refine uU (fun i σ H'=>∃(l:Addr) (es:List Addr) (f2 f3 f4:Option V),Same H H'/\H l=none/\H' l=some (.lst (es.map V.ref))/\Paired (zf6 H H') es (yN.allR i)/\σ=[some (.int (n:Nat)),some (.ref l),f2,f3,f4])
  ⟨l0,[q0],_,_,_,g0,fl0,zf,.cons ⟨hq0,e2⟩ .nil,rfl⟩ ?_ ?_
 ·rintro i σ H2 hi ⟨l,es,f2,f3,f4,g2,fl,hl,he,rfl⟩
  have el:=yU he
  have lt:=p256 i (by omega)
  refine⟨by show 0<=sizeLine;decide,fun lg hlg=>?_⟩
  have g3:=Same.new hlg (.lst [])
  have flg:H lg=none:=g2.free hlg
  refine⟨_,rfl,l,rfl,⟨_,zP.of (g3 _ _ hl)⟩,?_⟩
  refine vV (xs:=es.map V.ref) (fun m σ H'=>∃(us:List Addr) (f4:Option V),Same H2 H'/\H' lg=some (.lst (us.map V.ref))/\Paired (zhZ lg H H') us (((yN.allR i).take m).flatMap fun r=>[r++[false],r++[true]])/\σ=[some (.int (n:Nat)),some (.ref l),some (.int (0+(i:Nat))),some (.ref lg),f4])
   ⟨[],_,g3,zf,.nil,rfl⟩ ?_ ?_ ?_
  ·rintro m σ H' _ ⟨us,f4,g,_⟩
   exact zP.of (g _ _ hl)
  ·rintro m x σ H3 hx ⟨us,f4,g,hL0,hu,rfl⟩
   rw[zte] at hx
   cases hp:es[m]? with
   | none=>rw[hp] at hx;cases hx
   | some p =>
    rw[hp] at hx
    cases hx
    obtain⟨e,hee,fp,hpt⟩:=tO he hp
    have hp2:=g _ _ hpt
    have eln:=yN.vY i e (zth hee)
    have ul:=yU hu
    rw[yN.Ky _ (fun _=>rfl),ztA] at ul
    have gr:Same H3 H3:=Same.refl _
    refine⟨_,rfl,.inl ⟨rfl,_,zP.of hL0⟩,?_⟩
    refine⟨_,rfl,by show 1<=sizeLine;decide,fun a0 ha0=>?_⟩
    have ka0:=Same.new ha0 (.lst [.int 0])
    refine⟨p,a0,_,_,rfl,rfl,zP.of ((gr.trans ka0) _ _ hp2),zP.of zf,by rw[ztc,eln];exact zty (show i+1<=9 by omega) (by decide),fun r0 hr0=>?_⟩
    have nr0:r0≠lg:=Ne.symm (zA ((gr.trans ka0) _ _ hL0) hr0)
    have fr0:H r0=none:=(g2.trans (g.trans (gr.trans ka0))).free hr0
    have kb0:=(gr.trans ka0).trans (Same.new hr0 (.lst (zZ e++[.int 0])))
    have er0:upd (upd H3 a0 (.lst [.int 0])) r0 (.lst (zZ e++[.int 0])) r0=some (.lst (zZ (e++[false]))):=by rw[zf];unfold zZ;rw[ztq];rfl
    generalize upd (upd H3 a0 (.lst [.int 0])) r0 (.lst (zZ e++[.int 0]))=Hb0 at kb0 er0
    refine⟨_,rfl,by show 1<=sizeLine;decide,fun a1 ha1=>?_⟩
    have ka1:=Same.new ha1 (.lst [.int 1])
    refine⟨p,a1,_,_,rfl,rfl,zP.of ((kb0.trans ka1) _ _ hp2),zP.of zf,by rw[ztc,eln];exact zty (show i+1<=9 by omega) (by decide),fun r1 hr1=>?_⟩
    have nr1:r1≠lg:=Ne.symm (zA ((kb0.trans ka1) _ _ hL0) hr1)
    have fr1:H r1=none:=(g2.trans (g.trans (kb0.trans ka1))).free hr1
    have kb1:=(kb0.trans ka1).trans (Same.new hr1 (.lst (zZ e++[.int 1])))
    have er1:upd (upd Hb0 a1 (.lst [.int 1])) r1 (.lst (zZ e++[.int 1])) r1=some (.lst (zZ (e++[true]))):=by rw[zf];unfold zZ;rw[ztq];rfl
    have kbs:Same Hb0 (upd (upd Hb0 a1 (.lst [.int 1])) r1 (.lst (zZ e++[.int 1]))):=(Same.new ha1 (.lst [.int 1])).trans (Same.new hr1 (.lst (zZ e++[.int 1])))
    generalize upd (upd Hb0 a1 (.lst [.int 1])) r1 (.lst (zZ e++[.int 1]))=Hb1 at kb1 er1 kbs
    refine⟨by show 2<=sizeLine;decide,fun l2 hl2=>?_⟩
    have kc:=kb1.trans (Same.new hl2 (.lst [.ref r0,.ref r1]))
    have hLc:=kc _ _ hL0
    have er0':upd Hb1 l2 (.lst [.ref r0,.ref r1]) r0=some (.lst (zZ (e++[false]))):=(Same.new hl2 _) _ _ (by
     have z:Same Hb0 Hb1:=kbs
     exact z _ _ er0)
    have er1':upd Hb1 l2 (.lst [.ref r0,.ref r1]) r1=some (.lst (zZ (e++[true]))):=(Same.new hl2 _) _ _ er1
    refine⟨lg,l2,_,_,rfl,rfl,hLc,zf,by rw[ztc];exact ztv (zO (by show us.length+2<=1000;omega)),?_⟩
    refine⟨us++[r0,r1],_,(g.trans kc).over hlg _,by rw[zf,ztq];rfl,?_,rfl⟩
    rw[yj hee,List.flatMap_append]
    exact Xn (zcv (zaW hu kc)) (.cons ⟨fr0,nr0,by rw[zG nr0];exact er0'⟩ (.cons ⟨fr1,nr1,by rw[zG nr1];exact er1'⟩ .nil))
  ·rintro σ H3 ⟨us,f4,g,hL0,hu,rfl⟩
   rw[ztc,el,ztF] at hu
   exact⟨_,rfl,lg,us,_,_,_,g2.trans g,flg,hL0,yO (fun _ _ r=>⟨r.1,r.2.2⟩) hu,rfl⟩
 ·rintro σ H2 ⟨l,es,f2,f3,f4,g2,fl,hl,he,rfl⟩
  exact⟨_,rfl,q l H2 es g2 fl hl he⟩
theorem zfm (T:Txt P w K mg a)(vU:zF P w K mg base zY k a.vQ a.vR wM (uJ (yV a.zE))):zF P w K mg base zY (k+1) a.KZ a.K1 QJ (KD a.zE):=by
 refine T.zcI.F.ok zgp (fun vs H Q E h=>?_) (fun cdv A outer s H vs Q E hr h=>?_)
 ·obtain⟨b,os,rs,F,x,rfl,_⟩:=h
  rfl
 obtain⟨b,os,rs,F,x,rfl,hB,ax,lx,q⟩:=h
 refine⟨_,(zq (zL (LR (xK yH (zB ZM rfl T.yu zX (za (pv 1) zc)) (zB zy rfl T.yu zX (za (Qs (pv 0) T.yQ T.Yo vU hr) zc)) (zM _)) (zaw (zB (vW rfl) rfl T.T8 Xm (za (vg (wV:=zu KY) (js:=[]) rfl (by show uX _ _ "sign" [];exact Ku (by decide +kernel)) rfl (zjf (pv 1)) (by show ∀j∈([]:List Nat),j<2;decide) (fun cl C s₂ H₂ fp=>(xK (zaM (K:=K) rfl) (pv 0) (W9 (v:=.ref a.zas) rfl T.zlf rfl) (by with_unfolding_all rfl)))) zc)))))),?_⟩
 have L:=uK a.zE
 obtain⟨dx,fs,zd1,hm⟩:=L.ins hB
 have lz:x.length<=sizeLine:=ztv (zO lx)
 refine⟨_,rfl,x,rfl,lz,_,rfl,b,dx,fs,rfl,zd1,hm _ (by decide +kernel),b,os,rs,F,rfl,hB,fun l1 H1 g1 fl1 hl1=>?_⟩
 refine⟨l1,_,rfl,.inl (zP.of hl1),?_⟩
 rw[ztc]
 have e1:decide (V.int (x.length:Nat)=V.int (os.length:Nat))=decide (x.length=os.length):=decide_eq_decide.mpr ⟨fun e=>by injection e;omega,fun e=>by rw[e]⟩
 refine⟨rfl,_,rfl,?_⟩
 rw[e1]
 have q:=fun H' g=>q H' g
 unfold zhn at q
 refine yc (fun c=>?_) (fun c=>?_)
 ·rw[c,Bool.true_and] at q
  refine⟨_,rfl,x,rfl,ax,?_⟩
  refine zkZ (x:=x) (fun v=>.bl (inV v ((["-", "0", "1"]:List Str).map V.str))) lz (fun v H' Q0 hv g hQ=>?_) (fun H2 l2 g2 hl2=>?_)
  ·unfold sgs at hv
   obtain⟨c,_,rfl⟩:=List.mem_map.mp hv
   exact⟨_,rfl,a.zas,_,rfl,.inr (T.zlg H'),rfl,rfl,hQ _ g⟩
  ·have em:(sgs x).map (fun v=>V.bl (inV v ((["-", "0", "1"]:List Str).map V.str)))=(x.cps.toList.map fun c=>decide (c=45\/c=48\/c=49)).map V.bl:=by
    unfold sgs
    rw[ztO,ztO]
    refine List.map_congr_left fun c _=>congrArg V.bl ?_
    exact zk0 c
   rw[em]
   refine⟨l2,_,rfl,zP.of zf,?_⟩
   rw[List.all_map]
   exact q _ ((g1.trans g2).trans (Same.new hl2 _))
 ·have c':=Bool.eq_false_iff.mpr c
  rw[c',Bool.false_and] at q
  exact q _ g1
theorem J8 (T:Txt P w K mg a)(zie:zF P w K mg base zY k a.KZ a.K1 QJ (KD a.zE)):zF P w K mg base zY (k+1) a.Yg a.Yh uN (U5 a.zE):=by
 refine T.WX.F.ok JV (fun vs H Q E h=>?_) (fun cdv A outer s H vs Q E hr h=>?_)
 ·obtain⟨b,os,rs,F,c,rfl,_⟩:=h
  rfl
 obtain⟨b,os,rs,F,c,rfl,hB,hc,q⟩:=h
 refine⟨_,(zq (yq (ZJ (xU (zp zie hr T.zcI (za (pv 0) (za (pv 1) zc))) (fun _=>rfl))) (zq Ss) zT)),?_⟩
 have o8:=((uK a.zE).ord hB).le
 refine⟨_,rfl,_,rfl,b,os,rs,F,cbS c,rfl,hB,zaj c,by rw[yt];omega,fun H1 g1=>?_⟩
 rw[zjw,decide_eq_true hc]
 exact⟨_,rfl,yr (q _ g1)⟩
theorem zbu (T:Txt P w K mg a)(yK:zF P w K mg base zY k a.vO a.vP wR uY)(wj:zF P w K mg base zY k a.vJ a.vK wL uH)(Ur:zF P w K mg base zY k a.X7 a.X8 Yz X3):zF P w K mg base zY (k+1) a.Vy a.Vz YQ (U4 K):=by
 refine T.Pu.F.ok vp (fun vs H Q E h=>?_) (fun cdv A outer s H vs Q E hr h=>?_)
 ·obtain⟨pl,rl,n,ps,r,rfl,_⟩:=h
  rfl
 obtain⟨pl,rl,n,ps,r,rfl,n8,hl,hm,hp,el,l8,q⟩:=h
 refine⟨_,(zj (zH 3 vp.nd (zp yK hr T.uR (za (pv 2) zc)))
   (zj (xX PassesOwn.never rfl (zji rfl T.zlK (za (pv 0) (za (pv 1) zc))) (zcR rfl (Xc (yw (i:=4) vp.nd rfl (Or.inl rfl)) (Xc (yw (i:=5) vp.nd rfl (Or.inl rfl)) zaa))) (zj (zH 6 vp.nd (zp wj hr T.Xk (za (pv 4) (za (pv 2) zc))))
   (zq (zH 3 vp.nd (Mi (zJ yH (pv 5) zm (zM _)) (zK Zg (pv 3) (pv 6)) (zp Ur hr T.QS (za (pv 3) (za (pv 6) zc))))))))
   (zq (zL (pv 3))))),?_⟩
 refine⟨_,rfl,n,rfl,n8,?_⟩
 refine⟨_,rfl,_,rfl,pl,rl,XD ps,zZ r,rfl,hl,hm,?_⟩
 have e1:(XD ps).length=ps.length:=ztc _
 have e2:(zZ r).length=r.length:=ztc _
 refine zkN (xs:=XD ps) (ys:=zZ r) (by omega) (fun i σ H'=>Same H H'/\∃(M:Nat) (f4 f5 f6:Option V),z9 n M (hav ((ps.zip r).take i))/\σ=[some (.ref pl),some (.ref rl),some (.int (n:Nat)),some (.int (M:Nat)),f4,f5,f6]) ⟨Same.refl _,_,_,_,_,Uy n,rfl⟩ ?_ ?_ ?_
 ·rintro i σ H' _ ⟨g,_⟩
  exact⟨g.seq hl,g.seq hm⟩
 ·rintro i x y σ H' t hx hy ⟨g,M,f4,f5,f6,tm,rfl⟩ ht
  unfold XD at hx
  unfold zZ at hy
  rw[zte] at hx hy
  cases hj:ps[i]? with
  | none=>rw[hj] at hx;cases hx
  | some p =>
   rw[hj] at hx
   cases hx
   cases hk:r[i]? with
   | none=>rw[hk] at hy;cases hy
   | some v =>
    rw[hk] at hy
    cases hy
    have hz:(ps.zip r)[i]?=some (p,v):=List.getElem?_zip_eq_some.mpr ⟨hj,hk⟩
    have pn:=hp p (zth hj)
    have nx:hav ((ps.zip r).take (i+1))=fun b=>hav ((ps.zip r).take i) b&&(b.testBit p==v):=funext fun b=>by
     rw[yj hz]
     unfold hav
     rw[List.all_append]
     simp
    refine⟨t,_,rfl,wY.of zf,rfl,_,_,rfl,_,_,rfl,rfl,?_⟩
    refine⟨_,rfl,_,rfl,p,n,rfl,pn,n8,fun W tw=>?_⟩
    refine⟨_,rfl,rfl,_,rfl,?_⟩
    cases v with
    | true =>
     refine Wh ⟨_,rfl,_,rfl,M,W,rfl,rfl,g.trans (Same.new ht _),_,_,_,_,?_,rfl⟩
     rw[nx]
     have e:(fun b=>hav ((ps.zip r).take i) b&&(b.testBit p==true))=fun b=>hav ((ps.zip r).take i) b&&b.testBit p:=funext fun b=>by simp
     rw[e]
     exact zkP tm tw
    | false =>
     refine yr ⟨_,rfl,_,rfl,M,W,n,_,_,rfl,tm,tw,fun R tr=>⟨g.trans (Same.new ht _),R,_,_,_,?_,rfl⟩⟩
     rw[nx]
     have e:(fun b=>hav ((ps.zip r).take i) b&&(b.testBit p==false))=fun b=>hav ((ps.zip r).take i) b&&!b.testBit p:=funext fun b=>by cases b.testBit p<;>rfl
     rw[e]
     exact tr
 ·rintro σ H' ⟨g,M,f4,f5,f6,tm,rfl⟩
  have el:(ps.zip r).length=(XD ps).length:=by rw[List.length_zip,e1];omega
  rw[<-el,ztF] at tm
  exact⟨_,rfl,q M H' g tm⟩
theorem zgB (T:Txt P w K mg a)(zbY:zF P w K mg base zY k a.Vy a.Vz YQ (U4 K)):zF P w K mg base zY (k+1) a.Wa a.Wb YC Wm:=by
 refine T.Wc.F.ok zbh (fun vs H Q E h=>?_) (fun cdv A outer s H vs Q E hr h=>?_)
 ·obtain⟨c,rfl,_⟩:=h
  rfl
 obtain⟨c,rfl,c8,q⟩:=h
 refine⟨_,(zj (zge (i:=1) zbh.nd rfl (Or.inl rfl) (.inl rfl) (wV:=zu Ug) (js:=[]) rfl (by show zcu (zu Ug) _ "place" "sign" [];exact⟨⟨rfl,by decide +kernel,by decide +kernel,by decide +kernel,by decide +kernel⟩,by decide +kernel,by decide +kernel,by decide +kernel⟩) rfl (zeJ rfl T.R8 (za (pv 0) zc)) (by show ∀j∈([]:List Nat),j<2;decide) (fun cl C s₂ H₂ fp=>(zJ TV (pv 1) yg (zM _))) (fun cl C s₂ H₂ fp=>(pv 0)) rfl)
   (zq (zL (zp zbY hr T.Pu (za (pv 1) (za (vg (wV:=zu Ug) (js:=[0]) rfl (by show uX _ _ "place" ["cube"];exact Ku (by decide +kernel)) rfl (yF (pv 1)) (by show ∀j∈([0]:List Nat),j<2;decide) (fun cl C s₂ H₂ fp=>(wF zh2 rfl T.zhw zc5 (za (z8 PN (pv 1) (pv 0) (fun _ _=>rfl)) zc)))) (za (zB ZM rfl T.yu zX (za (pv 0) zc)) zc))))))),?_⟩
 have sz:(cbS c).cps.size<=sizeLine:=by rw[Wk];exact ztv (zO (by omega))
 refine⟨_,rfl,cbS c,rfl,zaj c,?_⟩
 refine zjt (fun i ys H'=>Same H H'/\ys=XD ((Mg c).filter fun j=>decide (j<i))/\i<=c.length) ⟨Same.refl _,by rw[List.filter_eq_nil_iff.mpr fun j _=>by simp];rfl,ztz _⟩ sz ?_ ?_ ?_
 ·rintro i ys H' ⟨_,rfl,hi⟩
  rw[Xg]
  exact zcA c hi
 ·rintro i cc ys H' p Q1 Q2 hcc ⟨g,rfl,_⟩ hp h1 h2
  obtain⟨s0,hs,rfl⟩:=zgf hcc
  have hi:i<c.length:=(ztf.mp hs).1
  have g2:=g.trans (Same.new hp (.tup [.int (i:Nat),.str ⟨#[Ua s0]⟩]))
  have step:=za1 (q:=c) hs
  refine⟨_,rfl,rfl,_,rfl,?_⟩
  cases s0 with
  | none =>
   refine zf7 (show V.str ⟨#[45]⟩=V.str "-" by decide +kernel) (h2 _ ⟨g2,?_,hi⟩)
   rw[step]
   show _=XD (_++[])
   rw[List.append_nil]
  | some v =>
   have ne:V.str ⟨#[Ua (some v)]⟩≠V.str "-" := by cases v<;>decide +kernel
   show if (!decide (V.str ⟨#[Ua (some v)]⟩=V.str "-"))=true then _ else _
   rw[decide_eq_false ne]
   refine Wh ⟨_,rfl,h1 _ _ ⟨g2,?_,hi⟩⟩
   rw[step]
   unfold XD
   rw[ztq]
   rfl
 ·rintro ys H1 pl ⟨g,rfl,_⟩ hpl
  have ef:((Mg c).filter fun j=>decide (j<(cbS c).cps.size))=Mg c:=List.filter_eq_self.mpr fun j hj=>decide_eq_true (by rw[Wk];exact zdv j hj)
  rw[ef]
  have g1:=g.trans (Same.new hpl (.lst (XD (Mg c))))
  have e1:upd H1 pl (.lst (XD (Mg c))) pl=some _:=zf
  generalize upd H1 pl _=H2 at g1 e1 ⊢
  have p8:(Mg c).length<=8:=zty (ztL _ _) (by rw[ztu];exact c8)
  refine⟨_,rfl,_,rfl,pl,rfl,⟨_,zP.of e1⟩,?_⟩
  refine Rk (xs:=XD (Mg c)) (fun i ys H'=>Same H2 H'/\ys=zZ ((vlC c).take i)) ⟨Same.refl _,rfl⟩ (by rw[Xg];exact ztv (zO (by omega))) ?_ ?_ ?_
  ·rintro i ys H' hi ⟨g,rfl⟩
   refine⟨zP.of (g _ _ e1),?_⟩
   unfold zZ
   rw[ztc,ztA]
   omega
  ·rintro i x ys H' Q0 hx ⟨g,rfl⟩ hQ
   obtain⟨j,hj,rfl⟩:=zgc hx
   have mj:=zth hj
   obtain⟨v,hv⟩:=zeM mj
   refine⟨_,rfl,_,rfl,cbS c,_,_,rfl,rfl,by rw[yt];exact ztv (zO (by omega)),yC (zak hv),v,?_,?_⟩
   ·show [V.str ⟨#[Ua (some v)]⟩]=_
    cases v<;>decide +kernel
   ·refine hQ _ _ ⟨g,?_⟩
    have hvl:(vlC c)[i]?=some v:=by
     unfold vlC
     rw[zte,hj]
     show some ((c.getD j none).getD false)=_
     rw[ztp,hv]
     rfl
    rw[yj hvl]
    unfold zZ
    rw[ztq]
    rfl
  ·rintro ys H3 vl ⟨g,rfl⟩ hvl
   have lv:(vlC c).length=(Mg c).length:=ztc _
   rw[Xg,<-lv,ztF]
   have g3:=g.trans (Same.new hvl (.lst (zZ (vlC c))))
   refine⟨_,rfl,cbS c,rfl,by rw[yt];exact ztv (zO (by omega)),?_⟩
   rw[yt]
   refine⟨pl,vl,c.length,Mg c,vlC c,rfl,c8,zP.of (g3 _ _ e1),zP.of zf,zdv,lv.symm,p8,fun R H' g' tR=>?_⟩
   have tR:z9 c.length R (xJ c):=fun b=>by rw[tR b,zmC]
   exact q R H' ((g1.trans g3).trans g') tR
theorem zd2 (T:Txt P w K mg a)(xW:zF P w K mg base zY k a.yX a.yZ yJ (Yx a.zE))(W7:zF P w K mg base zY k a.Yg a.Yh uN (U5 a.zE))
  (ZC:zF P w K mg base zY k a.Wa a.Wb YC (Wm))(v7:zF P w K mg base zY k a.wI a.wJ xQ (XS a.zE))(Ur:zF P w K mg base zY k a.X7 a.X8 Yz (X3)):zF P w K mg base zY (k+1) a.RV a.RW Vl (za2 a.zE):=by
 refine T.R5.F.ok zdN (fun vs H Q E h=>?_) (fun cdv A outer s H vs Q E hr h=>?_)
 ·obtain⟨b,os,rs,F,k0,c,rfl,_⟩:=h
  rfl
 obtain⟨b,os,rs,F,k0,c,rfl,hB,hk,hc,q⟩:=h
 refine⟨_,(zj (yh (tQ (pv 0) T.yQ T.wX xW hr (za (pv 1) zc)))
   (zj (yh (zp W7 hr T.WX (za (pv 0) (za (pv 2) zc))))
   (zq (zL (xK yH (zp Ur hr T.QS (za (zp ZC hr T.Wc (za (pv 2) zc)) (za (tQ (pv 0) T.yQ T.Zm v7 hr (za (pv 1) zc)) zc))) zm (zM _)))))),?_⟩
 have L:=uK a.zE
 have o8:=(L.ord hB).le
 obtain⟨dx,_,_,_,_,_,_,_,h0⟩:=id hB
 refine⟨_,rfl,b,dx,_,rfl,h0.hb,rfl,_,rfl,b,os,rs,F,k0,rfl,hB,hk,?_⟩
 refine⟨_,rfl,_,rfl,b,os,rs,F,c,rfl,hB,hc,fun H1 g1=>?_⟩
 refine⟨_,rfl,c,rfl,by omega,fun R H2 g2 tR=>?_⟩
 rw[hc] at tR
 have hB2:=L.same hB (g1.trans g2)
 refine⟨_,rfl,b,dx,_,rfl,(g1.trans g2) _ _ h0.hb,rfl,_,rfl,b,os,rs,F,k0,rfl,hB2,hk,fun t tt=>?_⟩
 refine⟨R,t,os.length,_,_,rfl,tR,tt,fun W tW=>?_⟩
 have e:decide (V.int (W:Nat)=V.int 0)=inB os.length (tB rs k0) c:=by
  refine Eq.trans ?_ (zgi tW)
  exact decide_eq_decide.mpr ⟨fun e=>by injection e;omega,fun e=>by rw[e];rfl⟩
 refine⟨rfl,?_⟩
 rw[e]
 exact q _ (g1.trans g2)
theorem zgC (T:Txt P w K mg a):zF P w K mg base zY (k+1) a.QL a.QM Uh QB:=by
 refine T.zcJ.F.ok zgq (fun vs H Q E h=>?_) (fun cdv A outer s H vs Q E hr h=>?_)
 ·obtain⟨c,rfl,_⟩:=h
  rfl
 obtain⟨c,rfl,c8,q⟩:=h
 refine⟨_,(zq (zL (zkO (wV:=zu QK) (js:=[0]) rfl (by show zcu (zu QK) _ "place" "sign" ["cube"];exact⟨⟨rfl,by decide +kernel,by decide +kernel,by decide +kernel,by decide +kernel⟩,by decide +kernel,by decide +kernel,by decide +kernel⟩) rfl (zeJ rfl T.R8 (za (pv 0) zc)) (by show ∀j∈([0]:List Nat),j<1;decide) (fun cl C s₂ H₂ fp=>(zJ TV (pv 1) yg (zM _))) (fun cl C s₂ H₂ fp=>(zK wu (zK wu (wK Rj (pv 2) uV (vL (pv 0))) yg) (wK Rj (pv 2) (vL (zK xH (pv 0) zm)) uV)))))),?_⟩
 have sz:(cbS c).cps.size<=sizeLine:=by rw[Wk];exact ztv (zO (by omega))
 have lz:(cbS c).length<=sizeLine:=sz
 refine⟨_,rfl,cbS c,rfl,zaj c,?_⟩
 refine zjt (fun i ys H'=>Same H H'/\ys=(((Mg c).filter fun j=>decide (j<i)).map fun i=>c.set i none).map (fun q=>V.str (cbS q))/\i<=c.length) ⟨Same.refl _,by rw[List.filter_eq_nil_iff.mpr fun j _=>by simp];rfl,ztz _⟩ sz ?_ ?_ ?_
 ·rintro i ys H' ⟨_,rfl,hi⟩
  rw[ztc,ztc]
  exact zcA c hi
 ·rintro i cc ys H' p Q1 Q2 hcc ⟨g,rfl,_⟩ hp h1 h2
  obtain⟨s0,hs,rfl⟩:=zgf hcc
  have hi:i<c.length:=(ztf.mp hs).1
  have g2:=g.trans (Same.new hp (.tup [.int (i:Nat),.str ⟨#[Ua s0]⟩]))
  have step:=za1 (q:=c) hs
  refine⟨_,rfl,rfl,_,rfl,?_⟩
  cases s0 with
  | none =>
   refine zf7 (show V.str ⟨#[45]⟩=V.str "-" by decide +kernel) (h2 _ ⟨g2,?_,hi⟩)
   rw[step]
   show _=((_++[]).map _).map _
   rw[List.append_nil]
  | some v =>
   have ne:V.str ⟨#[Ua (some v)]⟩≠V.str "-" := by cases v<;>decide +kernel
   show if (!decide (V.str ⟨#[Ua (some v)]⟩=V.str "-"))=true then _ else _
   rw[decide_eq_false ne]
   refine Wh ⟨_,rfl,_,rfl,_,rfl,cbS c,rfl,lz,?_⟩
   rw[zam (ztv hi)]
   have l1:(cbS (c.take i)).length+(Str.ofString "-").length<=sizeLine:=by
    rw[yt,ztA]
    exact ztv (zO (by show min i c.length+1<=1000;omega))
   refine⟨_,_,rfl,rfl,l1,?_⟩
   rw[dash,XF]
   refine⟨_,rfl,_,rfl,_,_,rfl,rfl,_,rfl,cbS c,rfl,lz,?_⟩
   have er:(i:Int)+1=((i+1:Nat):Int):=rfl
   rw[er,zan (by omega:i+1<=c.length)]
   refine⟨_,_,rfl,rfl,?_,?_⟩
   ·rw[yt,yt,ztk,ztA,List.length_drop]
    exact ztv (zO (by show min i c.length+1+(c.length-(i+1))<=1000;omega))
   ·rw[XF]
    refine h1 _ _ ⟨g2,?_,hi⟩
    rw[step,ztq,ztq]
    have es:c.set i none=c.take i++[none]++c.drop (i+1):=by
     rw[List.set_eq_take_append_cons_drop,if_pos hi,List.append_assoc]
     rfl
    show _=_++[V.str (cbS (c.set i none))]
    rw[es]
 ·rintro ys H1 pl ⟨g,rfl,_⟩ hpl
  have ef:((Mg c).filter fun j=>decide (j<(cbS c).cps.size))=Mg c:=List.filter_eq_self.mpr fun j hj=>decide_eq_true (by rw[Wk];exact zdv j hj)
  rw[ef]
  exact q pl _ (g.trans (Same.new hpl _)) (g.free hpl) zf
theorem zfn (T:Txt P w K mg a)(JH:zF P w K mg base zY k a.RV a.RW Vl (za2 a.zE))(zif:zF P w K mg base zY k a.QL a.QM Uh (QB)):zF P w K mg base zY (k+1) a.NK a.NP U9 (KH a.zE):=by
 refine T.zbo.F.ok ze3 (fun vs H Q E h=>?_) (fun cdv A outer s H vs Q E hr h=>?_)
 ·obtain⟨b,os,rs,F,k0,c,rfl,_⟩:=h
  rfl
 obtain⟨b,os,rs,F,k0,c,rfl,hB,hk,hc,q⟩:=h
 refine⟨_,(zq (zL (LR (zp JH hr T.R5 (za (pv 0) (za (pv 1) (za (pv 2) zc)))) (zaw (zl0 (zB (zjr rfl) rfl T.zn0 zmA (za (vg (wV:=zu Nt) (js:=[0,1]) rfl (by show uX _ _ "wider" ["book", "room"];exact Ku (by decide +kernel)) rfl (yF (zp zif hr T.zcJ (za (pv 2) zc))) (by show ∀j∈([0,1]:List Nat),j<3;decide) (fun cl C s₂ H₂ fp=>(zp JH hr T.R5 (za (pv 1) (za (pv 2) (za (pv 0) zc)))))) zc))))))),?_⟩
 have L:=uK a.zE
 have o8:=(L.ord hB).le
 refine⟨_,rfl,_,rfl,_,rfl,b,os,rs,F,k0,c,rfl,hB,hk,hc,fun H1 g1=>⟨_,rfl,?_⟩⟩
 unfold yE at q
 cases e:inB os.length (tB rs k0) c with
 | false =>
  rw[e,Bool.false_and] at q
  exact yr (q _ g1)
 | true =>
  rw[e,Bool.true_and] at q
  refine Wh ⟨_,rfl,c,rfl,by omega,fun l H2 g2 fl hl=>?_⟩
  have hB2:=L.same hB (g1.trans g2)
  have wl:(wid c).length<=8:=by
   unfold wid
   rw[ztc]
   exact zty (ztL _ _) (by rw[ztu];omega)
  refine⟨l,rfl,⟨_,zP.of hl⟩,?_⟩
  refine Rk (xs:=(wid c).map fun q=>V.str (cbS q)) (fun i ys H'=>Same H2 H'/\ys=(((wid c).take i).map (inB os.length (tB rs k0))).map V.bl) ⟨Same.refl _,rfl⟩ (by rw[ztc];exact ztv (zO (by omega))) ?_ ?_ ?_
  ·rintro i ys H' hi ⟨g,rfl⟩
   refine⟨zP.of (g _ _ hl),?_⟩
   rw[ztc,ztc,ztA]
   omega
  ·rintro i x ys H' Q0 hx ⟨g,rfl⟩ hQ
   rw[zte] at hx
   cases hw:(wid c)[i]? with
   | none=>rw[hw] at hx;cases hx
   | some c2 =>
    rw[hw] at hx
    cases hx
    have l2:c2.length=os.length:=by
     obtain⟨j,_,rfl⟩:=List.mem_map.mp (zth hw)
     rw[List.length_set];exact hc
    refine⟨_,rfl,_,rfl,_,rfl,b,os,rs,F,k0,c2,rfl,L.same hB2 g,hk,l2,fun H3 g3=>hQ _ _ ⟨g.trans g3,?_⟩⟩
    rw[yj hw,ztq,ztq]
    rfl
  ·rintro ys H3 p ⟨g,rfl⟩ hp
   rw[ztc,ztF]
   refine⟨p,_,rfl,zP.of zf,?_⟩
   rw[List.any_map]
   exact⟨_,rfl,q _ ((g1.trans g2).trans (g.trans (Same.new hp _)))⟩
theorem zbv {d:Nat}(T:Txt P w K mg a)(yK:zF P w K mg base zY k a.vO a.vP wR uY)(xO:zF P w K mg base zY k a.YD a.YF Zy Wj)
  (Zd:zF P w K mg base zY k a.tX a.tY v8 (Ub d)):zF P w K mg base zY (k+1) a.tX a.tY v8 (Ub (d+1)):=by
 refine T.Zb.F.ok vB (fun vs H Q E h=>?_) (fun cdv A outer s H vs Q E hr h=>?_)
 ·obtain⟨N,p,n,f,rfl,_⟩:=h
  rfl
 obtain⟨N,p,n,f,rfl,n8,hp,hd,tf,ff,q⟩:=h
 refine⟨_,(zj (yq (zJ yH (pv 0) zm (zM _)) (zq (zL (yM zc))) zT)
   (zj (yq (zJ yH (pv 0) (zp yK hr T.uR (za (pv 2) zc)) (zM _)) (zq (zL (yM (za (zK zkY yg (zK Kc (pv 2) (pv 1))) zc)))) zT)
   (zj (zH 3 vB.nd (zp xO hr T.YJ (za (pv 0) (za (pv 1) (za zm (za (pv 2) zc))))))
   (zj (zH 4 vB.nd (zp xO hr T.YJ (za (pv 0) (za (pv 1) (za zm (za (pv 2) zc))))))
   (zj (Ka (i:=5) vB.nd rfl (Or.inr rfl) (zp Zd hr T.Zb (za (zK Zg (pv 3) (pv 4)) (za (zK xH (pv 1) zm) (za (pv 2) zc)))))
   (zj (zaH (i:=6) vB.nd rfl (Or.inl rfl) (.inl rfl) (wV:=zu wU) (js:=[5]) rfl (by show uX _ _ "cube" ["either"];exact Ku (by decide +kernel)) rfl (yF (zp Zd hr T.Zb (za (pv 3) (za (zK xH (pv 1) zm) (za (pv 2) zc))))) (by show ∀j∈([5]:List Nat),j<8;decide) (fun cl C s₂ H₂ fp pins s' σ' H' Q I h=>wpAny_tests_one ((zJ (zcn (K:=K) rfl) (pv 0) (pv 1) (by with_unfolding_all rfl)) pins s' σ' H' Q I h)) (fun cl C s₂ H₂ fp=>(pv 0)) rfl)
   (zj (zaH (i:=7) vB.nd rfl (Or.inl rfl) (.inl rfl) (wV:=zu wU) (js:=[5]) rfl (by show uX _ _ "cube" ["either"];exact Ku (by decide +kernel)) rfl (yF (zp Zd hr T.Zb (za (pv 4) (za (zK xH (pv 1) zm) (za (pv 2) zc))))) (by show ∀j∈([5]:List Nat),j<8;decide) (fun cl C s₂ H₂ fp pins s' σ' H' Q I h=>wpAny_tests_one ((zJ (zcn (K:=K) rfl) (pv 0) (pv 1) (by with_unfolding_all rfl)) pins s' σ' H' Q I h)) (fun cl C s₂ H₂ fp=>(pv 0)) rfl)
   (zq (zL (zK U3 (zK U3 (vg (wV:=zu wU) (js:=[]) rfl (by show uX _ _ "cube" [];exact Ku (by decide +kernel)) rfl (yF (pv 5)) (by show ∀j∈([]:List Nat),j<8;decide) (fun cl C s₂ H₂ fp=>(zK wu yg (pv 0)))) (vg (wV:=zu wU) (js:=[]) rfl (by show uX _ _ "cube" [];exact Ku (by decide +kernel)) rfl (yF (pv 6)) (by show ∀j∈([]:List Nat),j<8;decide) (fun cl C s₂ H₂ fp=>(zK wu yg (pv 0))))) (vg (wV:=zu wU) (js:=[]) rfl (by show uX _ _ "cube" [];exact Ku (by decide +kernel)) rfl (yF (pv 7)) (by show ∀j∈([]:List Nat),j<8;decide) (fun cl C s₂ H₂ fp=>(zK wu yg (pv 0)))))))))))))),?_⟩
 have ei:∀{i j:Nat},V.int (i:Int)=V.int (j:Int)->i=j:=fun h=>by injection h with h;exact Int.ofNat.inj h
 refine⟨_,rfl,rfl,_,rfl,yc (fun e=>?_) (fun e1=>?_)⟩
 ·have e0:N=0:=ei (of_decide_eq_true e)
  subst e0
  have no:∀b,b<2^n->f b=false:=fun b hb=>by rw[<-yN.ZX tf hb];exact Nat.zero_testBit _
  exact⟨by show 0<=sizeLine;decide,fun l hl=>q l [] _ (Same.new hl _) hl zf (QZ.no hp no)⟩
 refine⟨_,rfl,_,rfl,n,rfl,n8,rfl,_,rfl,yc (fun e=>?_) (fun e2=>?_)⟩
 ·have e0:N=2^2^n-1:=ei (of_decide_eq_true e)
  have al:∀b,b<2^n->f b=true:=fun b hb=>by rw[<-yN.ZX tf hb,e0];exact yN.ZX (Uy n) hb
  refine⟨_,rfl,_,rfl,_,_,rfl,rfl,n-p,rfl,?_,by omega,by show 1<=sizeLine;decide,fun l hl=>q l [_] _ (Same.new hl _) hl zf (QZ.yes hp al)⟩
  show V.int ((n:Int)-(p:Int))=V.int ((n-p:Nat):Int)
  rw[Int.ofNat_sub hp]
 have n1:¬∀b,b<2^n->f b=true:=fun z=>e2 (decide_eq_true (congrArg (fun m:Nat=>V.int (m:Int)) (yN.Vc tf (Uy n) z)))
 have n0:¬∀b,b<2^n->f b=false:=fun z=>e1 (decide_eq_true (congrArg (fun m:Nat=>V.int (m:Int)) (yN.Vc tf (ZP n) z)))
 have hpn:p<n:=by
  refine Nat.lt_of_le_of_ne hp fun z=>?_
  subst z
  have cf:=yN.YM ff
  cases h1:f 0 with
  | false=>exact n0 fun b hb=>by rw[cf b hb,h1]
  | true=>exact n1 fun b hb=>by rw[cf b hb,h1]
 refine⟨_,rfl,_,rfl,_,rfl,N,p,n,false,f,rfl,hpn,n8,tf,fun M0 t0=>?_⟩
 refine⟨_,rfl,_,rfl,_,rfl,N,p,n,true,f,rfl,hpn,n8,tf,fun M1 t1=>?_⟩
 have f0:=Qy (v:=false) hpn ff
 have f1:=Qy (v:=true) hpn ff
 refine⟨_,rfl,_,rfl,M0,M1,rfl,rfl,_,rfl,_,_,rfl,rfl,_,rfl,M0&&&M1,p+1,n,_,rfl,n8,hpn,by omega,Zf t0 t1,fun i hi=>zjE (f0 i hi) (f1 i hi),fun le E1 H1 g1 hle h1 pE=>?_⟩
 refine⟨_,rfl,_,rfl,_,_,rfl,rfl,_,rfl,M0,p+1,n,_,rfl,n8,hpn,by omega,t0,f0,fun lz Z H2 g2 hlz h2 pZ=>?_⟩
 have few:∀{g:Nat->Bool} {L:List Cb},QZ n (p+1) g L->L.length<=sizeLine:=fun h=>wz (by have:=h.few n8;omega)
 refine⟨lz,rfl,⟨_,zP.of h2⟩,?_⟩
 refine za7 cbV (fun q=>!E1.contains q) (zP.of h2) (few pZ) (fun x H' Q0 h=>⟨_,rfl,h⟩) (fun x H' Q0 hx g hQ=>?_) (fun H3 lz' g3 hlz'=>?_)
 ·refine⟨_,rfl,_,rfl,le,_,rfl,.inl (zP.of ((g2.trans g) _ _ h1)),rfl,zhr E1,_,rfl,?_⟩
  have y:=hQ _ g
  rw[<-zjD] at y
  exact y
 generalize eZ:(Z.filter fun q=>!E1.contains q)=Z'
 have gz:=g3.trans (Same.new hlz' (.lst (Z'.map cbV)))
 have hz':upd H3 lz' (.lst (Z'.map cbV)) lz'=some _:=zf
 generalize upd H3 lz' _=H4 at gz hz' ⊢
 refine⟨_,rfl,_,rfl,_,_,rfl,rfl,_,rfl,M1,p+1,n,_,rfl,n8,hpn,by omega,t1,f1,fun lo O H5 g5 hlo h5 pO=>?_⟩
 have h15:=(g2.trans (gz.trans g5)) _ _ h1
 refine⟨lo,rfl,⟨_,zP.of h5⟩,?_⟩
 refine za7 cbV (fun q=>!E1.contains q) (zP.of h5) (few pO) (fun x H' Q0 h=>⟨_,rfl,h⟩) (fun x H' Q0 hx g hQ=>?_) (fun H6 lo' g6 hlo'=>?_)
 ·refine⟨_,rfl,_,rfl,le,_,rfl,.inl (zP.of (g _ _ h15)),rfl,zhr E1,_,rfl,?_⟩
  have y:=hQ _ g
  rw[<-zjD] at y
  exact y
 generalize eO:(O.filter fun q=>!E1.contains q)=O'
 have go:=g6.trans (Same.new hlo' (.lst (O'.map cbV)))
 have ho':upd H6 lo' (.lst (O'.map cbV)) lo'=some _:=zf
 generalize upd H6 lo' _=H7 at go ho' ⊢
 have hz7:=(g5.trans go) _ _ hz'
 have hE7:=go _ _ h15
 have gA:Same H H7:=g1.trans (g2.trans (gz.trans (g5.trans go)))
 have PF:=QZ.step hpn ff n1 pE pZ pO
 rw[eZ,eO] at PF
 have lE:=few pE
 have LL:=PF.few n8
 rw[ztk,ztk,ztc,ztc,ztc] at LL
 have sz:∀{q:Cb} {y:Str} {L:List Cb} {g:Nat->Bool},QZ n (p+1) g L->q∈L->y.length<=1->y.length+(cbS q).length<=sizeLine:=fun {q y L g} h m hy=>by
  have:=((h.mem q).mp m).1
  rw[yt]
  exact wz (by omega)
 have mZ:∀q∈Z',q∈Z:=fun q h=>by rw[<-eZ] at h;exact(List.mem_filter.mp h).1
 have mO:∀q∈O',q∈O:=fun q h=>by rw[<-eO] at h;exact(List.mem_filter.mp h).1
 refine⟨_,rfl,le,rfl,⟨_,zP.of hE7⟩,?_⟩
 refine QD cbV (fun q=>cbV (none::q)) (zP.of hE7) (wz (by omega)) (fun x H' Q0 hx g hQ=>⟨_,rfl,_,_,rfl,rfl,sz pE hx (by decide +kernel),by rw[zdB none x dash];exact hQ _ (Same.refl _)⟩) (fun H8 l8 g8 hl8=>?_)
 have k8:=Same.new hl8 (.lst (E1.map fun q=>cbV (none::q)))
 have hz8:=(g8.trans k8) _ _ hz7
 refine⟨_,rfl,lz',rfl,⟨_,zP.of hz8⟩,?_⟩
 refine QD cbV (fun q=>cbV (some false::q)) (zP.of hz8) (wz (by omega)) (fun x H' Q0 hx g hQ=>⟨_,rfl,_,_,rfl,rfl,sz pZ (mZ x hx) (by decide +kernel),by rw[zdB (some false) x nought];exact hQ _ (Same.refl _)⟩) (fun H9 l9 g9 hl9=>?_)
 have k9:=Same.new hl9 (.lst (Z'.map fun q=>cbV (some false::q)))
 refine⟨l8,l9,_,_,rfl,rfl,zP.of ((g9.trans k9) _ _ zf),zP.of zf,?_,fun la hla=>?_⟩
 ·rw[ztc,ztc]
  exact wz (by omega)
 have ka:=Same.new hla (.lst ((E1.map fun q=>cbV (none::q))++Z'.map fun q=>cbV (some false::q)))
 have ho8:=(((g8.trans k8).trans (g9.trans k9)).trans ka) _ _ ho'
 refine⟨_,rfl,lo',rfl,⟨_,zP.of ho8⟩,?_⟩
 refine QD cbV (fun q=>cbV (some true::q)) (zP.of ho8) (wz (by omega)) (fun x H' Q0 hx g hQ=>⟨_,rfl,_,_,rfl,rfl,sz pO (mO x hx) (by decide +kernel),by rw[zdB (some true) x zpE];exact hQ _ (Same.refl _)⟩) (fun Hb lb gb hlb=>?_)
 have kb:=Same.new hlb (.lst (O'.map fun q=>cbV (some true::q)))
 refine⟨la,lb,_,_,rfl,rfl,zP.of ((gb.trans kb) _ _ zf),zP.of zf,?_,fun lc hlc=>?_⟩
 ·rw[ztk,ztc,ztc,ztc]
  exact wz (by omega)
 have gg:=gA.trans ((((g8.trans k8).trans (g9.trans k9)).trans ka).trans (gb.trans kb))
 refine q lc _ _ (gg.trans (Same.new hlc _)) (gg.free hlc) ?_ PF
 rw[zf,ztq,ztq,ztO,ztO,ztO]
 rfl
theorem Qa (T:Txt P w K mg a)(yK:zF P w K mg base zY k a.vO a.vP wR uY)(xO:zF P w K mg base zY k a.YD a.YF Zy Wj) :
  ∀d:Nat,zF P w K mg base zY (k+d) a.tX a.tY v8 (Ub d)
 | 0=>by
  refine⟨fun vs H Q E h=>?_,fun A outer s H args us vs Q E _ _ _ _ h=>?_⟩
  ·obtain⟨N,p,n,f,rfl,_⟩:=h
   rfl
  ·obtain⟨N,p,n,f,_,_,h1,h2,_⟩:=h
   omega
 | d+1=>zbv T (yK.mono (ztN _ _)) (xO.mono (ztN _ _)) (Qa T yK xO d)
theorem zig (T:Txt P w K mg a)(xW:zF P w K mg base zY k a.yX a.yZ yJ (Yx a.zE))(v7:zF P w K mg base zY k a.wI a.wJ xQ (XS a.zE))(vU:zF P w K mg base zY k a.vQ a.vR wM (uJ (yV a.zE)))(Zd:zF P w K mg base zY k a.tX a.tY v8 (Ub 9)):zF P w K mg base zY (k+1) a.zbj a.zbk Lf (za8 a.zE):=by
 refine T.zfb.F.ok zia (fun vs H Q E h=>?_) (fun cdv A outer s H vs Q E hr h=>?_)
 ·obtain⟨b,os,rs,F,k0,rfl,_⟩:=h
  rfl
 obtain⟨b,os,rs,F,k0,rfl,hB,hk,q⟩:=h
 refine⟨_,(zj (yh (tQ (pv 0) T.yQ T.wX xW hr (za (pv 1) zc)))
   (zq (zL (zp Zd hr T.Zb (za (tQ (pv 0) T.yQ T.Zm v7 hr (za (pv 1) zc)) (za zm (za (zB zy rfl T.yu zX (za (Qs (pv 0) T.yQ T.Yo vU hr) zc)) zc))))))),?_⟩
 have L:=uK a.zE
 have o8:=(L.ord hB).le
 obtain⟨dx,ml,rl,tl,nd,rv,tbs,zp0,h⟩:=id hB
 refine⟨_,rfl,b,dx,_,rfl,h.hb,rfl,_,rfl,b,os,rs,F,k0,rfl,hB,hk,?_⟩
 refine⟨_,rfl,b,dx,_,rfl,h.hb,rfl,_,rfl,b,os,rs,F,k0,rfl,hB,hk,fun N tN=>?_⟩
 obtain⟨dx2,fs,zd1,hm⟩:=L.ins hB
 refine⟨_,rfl,b,dx2,fs,rfl,zd1,hm _ (by decide +kernel),b,os,rs,F,rfl,hB,fun l1 H1 g1 fl1 hl1=>?_⟩
 refine⟨l1,_,rfl,.inl (zP.of hl1),?_⟩
 rw[ztc]
 exact⟨N,0,os.length,_,rfl,o8,ztz _,by omega,tN,fun i hi=>absurd hi (Nat.not_lt_zero _),fun l qs H2 g2 hl h2 P=>q l qs H2 (g1.trans g2) (g1.free hl) h2 P⟩
theorem zbw (T:Txt P w K mg a)(Ur:zF P w K mg base zY k a.X7 a.X8 Yz X3):zF P w K mg base zY (k+1) a.Y6 a.Y7 tV (zap K):=by
 refine T.Y8.F.ok vC (fun vs H Q E h=>?_) (fun cdv A outer s H vs Q E hr h=>?_)
 ·obtain⟨l,n,Ns,fs,rfl,_⟩:=h
  rfl
 obtain⟨l,n,Ns,fs,rfl,hl,hp,q⟩:=h
 refine⟨_,(zj (zH 1 vC.nd zm)
   (zj (zH 2 vC.nd zm)
   (zj (xX PassesOwn.never rfl (yF (pv 0)) (yw (i:=3) vC.nd rfl (Or.inl rfl)) (zj (zH 2 vC.nd (zK Vt (pv 2) (zK Zg (pv 1) (pv 3))))
   (zq (zH 1 vC.nd (zK Vt (pv 1) (pv 3))))))
   (zq (zL (zp Ur hr T.QS (za (pv 1) (za (pv 2) zc)))))))),?_⟩
 refine⟨_,rfl,l,rfl,⟨_,hl⟩,?_⟩
 have lf:=yU hp
 refine vV (xs:=Ns.map fun N=>V.int (N:Nat)) (fun i σ H'=>∃(S A:Nat) (f3:Option V),H'=H/\z9 n S (fun b=>decide (1<=M4 (fs.take i) b))/\z9 n A (fun b=>decide (2<=M4 (fs.take i) b))/\σ=[some (.ref l),some (.int (S:Nat)),some (.int (A:Nat)),f3]) ⟨0,0,_,rfl,?_,?_,rfl⟩ (fun i σ H' _ ⟨_,_,_,e,_⟩=>by rw[e];exact hl) ?_ ?_
 ·exact yR (ZP n) fun b _=>rfl
 ·exact yR (ZP n) fun b _=>rfl
 ·rintro i x σ H' hx ⟨S,A,f3,rfl,tS,tA,rfl⟩
  rw[zte] at hx
  cases hN:Ns[i]? with
  | none=>rw[hN] at hx;cases hx
  | some N =>
   rw[hN] at hx
   cases hx
   obtain⟨f,hf,tN⟩:=tO hp hN
   refine⟨_,rfl,_,rfl,_,rfl,S,N,rfl,rfl,A,_,rfl,rfl,?_⟩
   refine⟨_,rfl,_,rfl,S,N,rfl,rfl,S|||N,A|||(S&&&N),_,rfl,yR (Sy tS tN) fun b _=>?_,yR (Sy tA (Zf tS tN)) fun b _=>?_,rfl⟩
   ·rw[yj hf,zcC]
    cases f b
    ·rw[Bool.or_false];rfl
    ·rw[Bool.or_true];exact(decide_eq_true (Nat.le_add_left 1 _)).symm
   ·rw[yj hf,zcC]
    cases f b
    ·rw[Bool.and_false,Bool.or_false];rfl
    ·rw[Bool.and_true]
     rw[ztS,Bool.or_eq_true,decide_eq_true_iff,decide_eq_true_iff,decide_eq_true_iff]
     show _↔2<=_+1
     omega
 ·rintro σ H' ⟨S,A,f3,rfl,tS,tA,rfl⟩
  rw[ztc,lf,ztF] at tS tA
  refine⟨_,rfl,_,rfl,S,A,n,_,_,rfl,tS,tA,fun R tR=>q R (yR tR fun b _=>?_)⟩
  rw[ztS,ztE,Bool.not_eq_true',decide_eq_true_iff,decide_eq_false_iff_not,decide_eq_true_iff]
  omega
theorem zjQ (T:Txt P w K mg a)(zjR:zF P w K mg base zY k a.zbj a.zbk Lf (za8 a.zE))(ZC:zF P w K mg base zY k a.Wa a.Wb YC Wm)(Xb:zF P w K mg base zY k a.Y6 a.Y7 tV (zap K))(zfo:zF P w K mg base zY k a.RK a.RL Ve Nh)(vU:zF P w K mg base zY k a.vQ a.vR wM (uJ (yV a.zE))):zF P w K mg base zY (k+1) a.zdT a.zdU zaq (zdF a.zE):=by
 refine T.zhv.F.ok Ry (fun vs H Q E h=>?_) (fun cdv A outer s H vs Q E hr h=>?_)
 ·obtain⟨b,os,rs,F,k0,rfl,_⟩:=h
  rfl
 obtain⟨b,os,rs,F,k0,rfl,hB,hk,q⟩:=h
 refine⟨_,(zj (zH 2 Ry.nd zi8)
   (zj (xX PassesOwn.never rfl (yF (zp zjR hr T.zfb (za (pv 0) (za (pv 1) zc)))) (yw (i:=3) Ry.nd rfl (Or.inl rfl)) (zq (zhb (zch hr) (pv 2) (pv 3) (zp ZC hr T.Wc (za (pv 3) zc)) rfl)))
   (zj (xX PassesOwn.never rfl (yF (wF (Rb rfl) rfl T.NZ Qj (za (pv 2) zc))) (yw (i:=3) Ry.nd rfl (Or.inl rfl)) (zq (yq (zJ yH (zK Zg (zdj (zch hr) (pv 2) (pv 3) (fun _ _=>rfl)) (zp Xb hr T.Y8 (za (Jp rfl rfl T.NZ (pv 2)) zc))) zm (zM _)) (zq (yh (vf PySem.F.plainAttrs_dict PySem.F.slot_dict_pop PySem.F.type_dict_pop zk4 (pv 2) (za (pv 3) zc)))) zT)))
   (zj (Ka (i:=4) Ry.nd rfl (Or.inr rfl) (zp Xb hr T.Y8 (za (Jp rfl rfl T.NZ (pv 2)) zc)))
   (zq (zL (uG (za (wF (Rb rfl) rfl T.NZ Qj (za (pv 2) zc)) (za (vg (wV:=zu zdO) (js:=[4,0]) rfl (by show uX _ _ "table" ["own", "book"];exact Ku (by decide +kernel)) rfl (zk5 (pv 2)) (by show ∀j∈([4,0]:List Nat),j<5;decide) (fun cl C s₂ H₂ fp=>(zp zfo hr T.Jy (za (zK Zg (pv 0) (pv 1)) (za (zB (zbK (K:=K) rfl) rfl T.yu zX (za (Qs (pv 2) T.yQ T.Yo vU hr) zc)) zc))))) zc))))))))),?_⟩
 have L:=uK a.zE
 have o8:=(L.ord hB).le
 obtain⟨T0,hT⟩:∃T0:Cb->Nat,∀c,z9 os.length (T0 c) (xJ c):=⟨fun c=>(zdD os.length (xJ c)).choose,fun c=>(zdD os.length (xJ c)).choose_spec⟩
 refine fun d hd=>?_
 have gd:=Same.new hd (.dK [])
 refine⟨_,rfl,_,rfl,b,os,rs,F,k0,rfl,L.same hB gd,hk,fun pl qs H1 g1 hpl h1 PP=>?_⟩
 have lq:=PP.few o8
 have mq:∀c∈qs,c.length=os.length:=fun c hc=>((PP.mem c).mp hc).1
 have ndp:d≠pl:=zA zf hpl
 refine⟨pl,rfl,⟨_,zP.of h1⟩,?_⟩
 refine vV (xs:=qs.map cbV) (fun i σ H'=>∃f3 f4,Same H H'/\H' pl=some (.lst (qs.map cbV))/\H' d=some (.dK ((qs.take i).map (kvT T0)))/\σ=[some (.ref b),some (.int (k0:Nat)),some (.ref d),f3,f4]) ⟨_,_,gd.trans g1,h1,g1 _ _ zf,rfl⟩ (fun i σ H' _ ⟨_,_,_,h,_⟩=>zP.of h) ?_ ?_
 ·rintro i x σ H2 hx ⟨f3,f4,g,hp,hd',rfl⟩
  rw[zte] at hx
  cases hc:qs[i]? with
  | none=>rw[hc] at hx;cases hx
  | some c =>
   rw[hc] at hx
   cases hx
   have lc:=mq c (zth hc)
   refine⟨_,rfl,c,rfl,by omega,fun R H3 g3 tR=>?_⟩
   rw[lc] at tR
   obtain rfl:R=T0 c:=yN.Vc tR (hT c) fun _ _=>rfl
   refine⟨_,rfl,_,rfl,d,_,rfl,zhU.k (k:=.inr (cbS c)) (g3 _ _ hd') ?_,?_⟩
   ·rw[ztc,ztA]
    exact ztl (show _<10000 by omega) (by decide)
   refine⟨_,_,(g.trans g3).over hd _,by rw[zG (Ne.symm ndp)];exact g3 _ _ hp,?_,rfl⟩
   rw[zf,yj hc,ztq]
   have no:c∉qs.take i:=fun hm=>by
    obtain⟨hi,rfl⟩:=ztf.mp hc
    obtain⟨j,hj,ej⟩:=ztU hm
    rw[ztA] at hj
    rw[List.getElem_take] at ej
    have:=(List.pairwise_iff_getElem.mp PP.nd) j i (by omega) hi (by omega)
    exact this ej
   rw[zi7 _ (zeR no)]
   rfl
 rintro σ H2 ⟨f3,f4,g2,_,hd2,rfl⟩
 rw[ztc,ztF] at hd2
 refine⟨_,rfl,d,_,rfl,hd2,fun ll hll=>?_⟩
 have el:(qs.map (kvT T0)).map (fun e=>kV e.1)=qs.map cbV:=by rw[ztO];rfl
 rw[el]
 have gl:=g2.trans (Same.new hll (.lst (qs.map cbV)))
 have ndl:d≠ll:=zA hd2 hll
 have hdl:upd H2 ll (.lst (qs.map cbV)) d=some (.dK (qs.map (kvT T0))):=(Same.new hll _) _ _ hd2
 have hll':upd H2 ll (.lst (qs.map cbV)) ll=some _:=zf
 generalize upd H2 ll _=H3 at gl hdl hll' ⊢
 refine⟨ll,rfl,⟨_,zP.of hll'⟩,?_⟩
 have ev:∀ks:List Cb,(ks.map (kvT T0)).map (·.2)=(ks.map T0).map fun N=>V.int (N:Nat):=fun ks=>by rw[ztO,ztO];rfl
 have pv:∀ks:List Cb,Paired (z9 os.length) (ks.map T0) (ks.map xJ):=fun ks=>by
  induction ks with
  | nil=>exact .nil
  | cons c ks ih=>exact .cons (hT c) ih
 refine vV (xs:=qs.map cbV) (fun i σ H'=>∃ks f3 f4,Same H H'/\H' ll=some (.lst (qs.map cbV))/\H' d=some (.dK (ks.map (kvT T0)))/\Whi os.length (tB rs k0) qs i ks/\σ=[some (.ref b),some (.int (k0:Nat)),some (.ref d),f3,f4]) ⟨qs,_,_,gl,hll',hdl,Whi.start PP,rfl⟩ (fun i σ H' _ ⟨_,_,_,_,h,_⟩=>zP.of h) ?_ ?_
 ·rintro i x σ H4 hx ⟨ks,f3,f4,g,hl',hd',wh,rfl⟩
  rw[zte] at hx
  cases hc:qs[i]? with
  | none=>rw[hc] at hx;cases hx
  | some c =>
   rw[hc] at hx
   cases hx
   have mc:=wh.has hc
   have get:=JL.k (k:=.inr (cbS c)) hd'
   rw[zdE mc] at get
   refine⟨_,rfl,_,rfl,d,_,rfl,get,_,rfl,d,_,rfl,hd',fun lv hlv=>?_⟩
   rw[ev ks]
   have gv:=Same.new hlv (.lst ((ks.map T0).map fun N=>V.int (N:Nat)))
   have hlv':upd H4 lv (.lst ((ks.map T0).map fun N=>V.int (N:Nat))) lv=some _:=zf
   generalize upd H4 lv _=H5 at gv hlv' ⊢
   refine⟨lv,os.length,ks.map T0,ks.map xJ,rfl,zP.of hlv',pv ks,fun R tR=>⟨T0 c,R,rfl,rfl,rfl,_,rfl,yc (fun e=>?_) (fun e=>?_)⟩⟩
   ·have e0:T0 c&&&R=0:=by
     have:=of_decide_eq_true e
     injection this with this
     exact Int.ofNat.inj this
    have no:∀b,b<2^os.length->¬Own ks c b:=fun b' hb o=>by
     have y:=yN.ZX (Zf (hT c) tR) hb
     rw[e0,Nat.zero_testBit,o.1,decide_eq_true ((own_one (wh.nd PP) mc o.1).mpr o)] at y
     cases y
    refine⟨_,rfl,.inr (.inr (.inl ⟨rfl,.inl ⟨_,gv _ _ hd'⟩⟩)),_,rfl,d,_,.inr (cbS c),_,rfl,rfl,gv _ _ hd',zdE mc,?_⟩
    rw[zjH]
    exact⟨_,_,_,(g.trans gv).over hd _,by rw[zG (Ne.symm ndl)];exact gv _ _ hl',zf,wh.gone PP hc no,rfl⟩
   ·have e0:T0 c&&&R≠0:=fun z=>e (decide_eq_true (by show V.int ((T0 c&&&R:Nat):Int)=V.int 0;rw[z];rfl))
    have yes:∃b,b<2^os.length/\Own ks c b:=by
     refine Classical.byContradiction fun z=>e0 (yN.Vc (Zf (hT c) tR) (ZP os.length) fun b' hb=>?_)
     cases h1:xJ c b' with
     | false=>rfl
     | true =>
      rw[Bool.true_and]
      refine decide_eq_false fun h2=>z ⟨b',hb,(own_one (wh.nd PP) mc h1).mp h2⟩
    exact⟨_,_,_,g.trans gv,gv _ _ hl',gv _ _ hd',wh.stay hc yes,rfl⟩
 rintro σ H4 ⟨ks,f3,f4,g,hl',hd',wh,rfl⟩
 rw[ztc] at wh
 have nd:=wh.nd PP
 have lk:ks.length<=2187:=zty wh.sub.length_le lq
 refine⟨_,rfl,d,_,rfl,hd',fun lv hlv=>?_⟩
 rw[ev ks]
 have gv:=Same.new hlv (.lst ((ks.map T0).map fun N=>V.int (N:Nat)))
 have hlv':upd H4 lv (.lst ((ks.map T0).map fun N=>V.int (N:Nat))) lv=some _:=zf
 generalize upd H4 lv _=H5 at gv hlv' ⊢
 refine⟨lv,os.length,ks.map T0,ks.map xJ,rfl,zP.of hlv',pv ks,fun R tR=>?_⟩
 have hd5:=gv _ _ hd'
 have g5:=g.trans gv
 refine⟨_,rfl,d,_,rfl,hd5,fun cl hcl=>?_⟩
 have ek:(ks.map (kvT T0)).map (fun e=>kV e.1)=ks.map cbV:=by rw[ztO];rfl
 rw[ek]
 have gc:=Same.new hcl (.lst (ks.map cbV))
 have hcl':upd H5 cl (.lst (ks.map cbV)) cl=some _:=zf
 have fcl:=g5.free hcl
 have ndc:d≠cl:=zA hd5 hcl
 generalize upd H5 cl _=H6 at gc hcl' ⊢
 refine⟨_,rfl,d,_,rfl,gc _ _ hd5,fun o=>?_⟩
 have gG:=(g5.trans gc).over hd (.frz o (.dK (ks.map (kvT T0))))
 have hG:upd H6 d (.frz o (.dK (ks.map (kvT T0)))) d=some _:=zf
 have cG:upd H6 d (.frz o (.dK (ks.map (kvT T0)))) cl=some (.lst (ks.map cbV)):=by rw[zG (Ne.symm ndc)];exact hcl'
 generalize upd H6 d (.frz o (.dK (ks.map (kvT T0))))=G at gG hG cG ⊢
 have lm:(ks.map (kvT T0)).length=ks.length:=ztc _
 refine zk6 (fun i ys H'=>Same G H'/\∃ps rows,ys=ps.map V.ref/\rows.length=i/\Paired (fun p r=>G p=none/\H' p=some (.lst (zZ r))) ps rows/\ps.Nodup/\∀(j:Nat) c r,ks[j]?=some c->rows[j]?=some r->r.length=os.length/\Own ks c (zx r)) ⟨Same.refl _,[],[],rfl,rfl,.nil,.nil,fun j c r _ e=>by cases e⟩ (by rw[lm];exact wz (by omega)) ?_ ?_ ?_
 ·rintro i ys H' hi ⟨g',ps,rows,rfl,e,pp,_⟩
  exact⟨g' _ _ hG,by rw[ztc,yU pp,e];exact zts _⟩
 ·rintro i p ys H' Q0 hp ⟨g',ps,rows,rfl,e,pp,np,ow⟩ hn
  rw[zte] at hp
  cases hc:ks[i]? with
  | none=>rw[hc] at hp;cases hp
  | some c =>
   rw[hc] at hp
   cases hp
   have hB':=L.same hB (gG.trans g')
   obtain⟨dx2,fs2,zd1,hm⟩:=L.ins hB'
   have an:yN.anyB os.length (fun b=>xJ c b&&decide (M4 (ks.map xJ) b=1))=true:=by
    obtain⟨b',hb,o'⟩:=wh.done c (zth hc)
    rw[yN.anyB_iff]
    exact⟨b',hb,by rw[o'.1,decide_eq_true ((own_one nd (zth hc) o'.1).mpr o')];rfl⟩
   refine⟨_,rfl,_,rfl,T0 c,R,rfl,rfl,_,rfl,b,dx2,fs2,rfl,zd1,hm _ (by decide +kernel),b,os,rs,F,rfl,hB',fun l1 H7 g7 fl1 hl1=>?_⟩
   refine⟨l1,_,rfl,.inl (zP.of hl1),?_⟩
   rw[ztc]
   refine⟨T0 c&&&R,os.length,_,rfl,o8,Zf (hT c) tR,an,fun l2 H8 r g8 hl2 h2 hd2=>hn _ _ ⟨g'.trans (g7.trans g8),ps++[l2],rows++[r],by rw[ztq];rfl,by rw[ztk,e];rfl,?_,?_,?_⟩⟩
   ·exact Xn (yO (fun _ _ z=>⟨z.1,(g7.trans g8) _ _ z.2⟩) pp) (.cons ⟨(g'.trans g7).free hl2,h2⟩ .nil)
   ·refine List.nodup_append.mpr ⟨np,List.pairwise_singleton _ _,fun x hx y hy=>?_⟩
    rw[List.mem_singleton.mp hy]
    obtain⟨j,hj⟩:=List.mem_iff_getElem?.mp hx
    obtain⟨r',_,_,z⟩:=tO pp hj
    exact zA (g7 _ _ z) hl2
   ·intro j c' r' h1 h2'
    have mr:=List.mem_filter.mp (List.mem_of_head? hd2)
    rcases Nat.lt_or_ge j rows.length with z | z
    ·rw[ztJ z] at h2'
     exact ow j c' r' h1 h2'
    ·have hj:j<(rows++[r]).length:=(ztf.mp h2').1
     rw[ztk,ztK] at hj
     have ej:j=i:=by omega
     subst ej
     rw[List.getElem?_append_right z,e,Nat.sub_self] at h2'
     obtain rfl:=ztH h2'
     obtain rfl:=ztH (hc.symm.trans h1)
     have y:=mr.2
     rw[ztE] at y
     exact⟨yN.vY _ _ mr.1,(own_one nd (zth hc) y.1).mp (of_decide_eq_true y.2)⟩
 ·rintro ys H' rl ⟨g',ps,rows,rfl,e,pp,np,ow⟩ hrl
  have gr:=Same.new hrl (.lst (ps.map V.ref))
  refine⟨by show 2<=sizeLine;decide,fun t ht=>?_⟩
  have gt:=Same.new ht (.tup [.ref cl,.ref rl])
  have gg:=gG.trans (g'.trans gr)
  refine q t cl rl ks ps rows _ (gg.trans gt) (gg.free ht) fcl ((gG.trans g').free hrl) (zA (g' _ _ cG) hrl) zf ((g'.trans (gr.trans gt)) _ _ cG) (gt _ _ zf) (yO (fun p r z=>⟨gG.free z.1,Ne.symm (zA cG z.1),zA z.2 hrl,(gr.trans gt) _ _ z.2⟩) pp) np ⟨fun c hc=>?_,PP.up.sublist wh.sub,wh.cov,by rw[e,lm],ow⟩ lk
  exact(PP.mem c).mp (wh.sub.subset hc)
theorem K8 (T:Txt P w K mg a)(W7:zF P w K mg base zY k a.Yg a.Yh uN (U5 a.zE)):zF P w K mg base zY (k+1) a.Xu a.Xv Zk (Ro a.zE K):=by
 refine T.T7.F.ok Ue (fun vs H Q E h=>?_) (fun cdv A outer s H vs Q E hr h=>?_)
 ·obtain⟨b,l,os,rs,F,qs,rfl,_⟩:=h
  rfl
 obtain⟨b,l,os,rs,F,qs,rfl,hB,hl,hq,q⟩:=h
 refine⟨_,(zq (xX PassesOwn.never rfl (yF (pv 1)) (yw (i:=2) Ue.nd rfl (Or.inl rfl)) (zq (yh (zp W7 hr T.WX (za (pv 0) (za (pv 2) zc))))))),?_⟩
 refine⟨_,rfl,l,rfl,⟨_,hl⟩,?_⟩
 refine vV (xs:=qs.map fun q=>V.str (cbS q)) (fun i σ H'=>∃f2,Same H H'/\σ=[some (.ref b),some (.ref l),f2]) ⟨_,Same.refl _,rfl⟩ (fun i σ H' _ ⟨_,g,_⟩=>g.seq hl) ?_ ?_
 ·rintro i x σ H' hx ⟨f2,g,rfl⟩
  obtain⟨c,hc,rfl⟩:=List.mem_map.mp (zth hx)
  exact⟨_,rfl,_,rfl,b,os,rs,F,c,rfl,(uK a.zE).same hB g,hq c hc,fun H2 g2=>⟨_,g.trans g2,rfl⟩⟩
 ·rintro σ H' ⟨f2,g,rfl⟩
  exact q _ g
theorem zfp (T:Txt P w K mg a)(xW:zF P w K mg base zY k a.yX a.yZ yJ (Yx a.zE))(J9:zF P w K mg base zY k a.Xu a.Xv Zk (Ro a.zE K))(ZC:zF P w K mg base zY k a.Wa a.Wb YC Wm)(v7:zF P w K mg base zY k a.wI a.wJ xQ (XS a.zE)):zF P w K mg base zY (k+1) a.Tp a.Tq Ws (QF a.zE K):=by
 refine T.NT.F.ok Vm (fun vs H Q E h=>?_) (fun cdv A outer s H vs Q E hr h=>?_)
 ·obtain⟨b,l,os,rs,F,k0,qs,rfl,_⟩:=h
  rfl
 obtain⟨b,l,os,rs,F,k0,qs,rfl,hB,hk,hl,hq,q⟩:=h
 refine⟨_,(zj (yh (tQ (pv 0) T.yQ T.wX xW hr (za (pv 1) zc)))
   (zj (yh (zp J9 hr T.T7 (za (pv 0) (za (pv 2) zc))))
   (zj (zH 3 Vm.nd zm)
   (zj (xX PassesOwn.never rfl (yF (pv 2)) (yw (i:=4) Vm.nd rfl (Or.inl rfl)) (zq (zH 3 Vm.nd (zK Vt (pv 3) (zp ZC hr T.Wc (za (pv 4) zc))))))
   (zq (zL (xK yH (pv 3) (tQ (pv 0) T.yQ T.Zm v7 hr (za (pv 1) zc)) (zM _)))))))),?_⟩
 have L:=uK a.zE
 have o8:=(L.ord hB).le
 obtain⟨dx,ml,rl,tl,nd,rv,tbs,zp0,h⟩:=id hB
 refine⟨_,rfl,b,dx,_,rfl,h.hb,rfl,_,rfl,b,os,rs,F,k0,rfl,hB,hk,?_⟩
 refine⟨_,rfl,_,rfl,b,l,os,rs,F,qs,rfl,hB,hl,hq,fun H1 g1=>?_⟩
 refine⟨_,rfl,l,rfl,⟨_,g1.seq hl⟩,?_⟩
 refine vV (xs:=qs.map fun q=>V.str (cbS q)) (fun i σ H'=>∃(N:Nat) (f4:Option V),Same H H'/\z9 os.length N (fun b=>(qs.take i).any fun c=>xJ c b)/\σ=[some (.ref b),some (.int (k0:Nat)),some (.ref l),some (.int (N:Nat)),f4]) ⟨0,_,g1,ZP _,rfl⟩ (fun i σ H' _ ⟨_,_,g,_⟩=>g.seq hl) ?_ ?_
 ·rintro i x σ H' hx ⟨N,f4,g,tN,rfl⟩
  rw[zte] at hx
  cases hc:qs[i]? with
  | none=>rw[hc] at hx;cases hx
  | some c =>
   rw[hc] at hx
   cases hx
   have lc:=hq c (zth hc)
   refine⟨_,rfl,_,rfl,c,rfl,by omega,fun R H2 g2 tR=>⟨N,R,rfl,rfl,_,_,g.trans g2,?_,rfl⟩⟩
   rw[lc] at tR
   refine yR (Sy tN tR) fun b _=>?_
   rw[yj hc,List.any_append,List.any_cons,List.any_nil,Bool.or_false]
 ·rintro σ H' ⟨N,f4,g,tN,rfl⟩
  rw[ztc,ztF] at tN
  have hB':=L.same hB g
  obtain⟨dx2,ml2,rl2,tl2,Mh,rv2,zsC,zmK,h2⟩:=id hB'
  refine⟨_,rfl,_,rfl,b,dx2,_,rfl,h2.hb,rfl,_,rfl,b,os,rs,F,k0,rfl,hB',hk,fun M tM=>⟨rfl,?_⟩⟩
  have e:decide (V.int (N:Int)=V.int (M:Int))=M5 os.length (tB rs k0) qs:=by
   rw[ztS,decide_eq_true_iff,zeS]
   constructor
   ·intro z b' hb
    injection z with z
    have z:N=M:=Int.ofNat.inj z
    subst z
    rw[<-yN.ZX tN hb]
    exact yN.ZX tM hb
   ·intro z
    rw[yN.Vc tN tM z]
  rw[e]
  exact q _ g
theorem zih (T:Txt P w K mg a):zF P w K mg base zY (k+1) a.Li a.Lj Rt (zaf K):=by
 refine T.zfa.F.ok zh9 (fun vs H Q E h=>?_) (fun cdv A outer s H vs Q E hr h=>?_)
 ·obtain⟨l,r,xs,ns,rfl,_⟩:=h
  rfl
 obtain⟨l,r,xs,ns,rfl,hl,hq,hz,q⟩:=h
 refine⟨_,(zq (zL (LR (xK yH (zB zy rfl T.yu zX (za (pv 1) zc)) (zB zy rfl T.yu zX (za (pv 0) zc)) (zM _)) (zaw (zB (vW rfl) rfl T.T8 Xm (za (vg (wV:=zu zbf) (js:=[]) rfl (by show uX _ _ "value" [];exact Ku (by decide +kernel)) rfl (yF (pv 1)) (by show ∀j∈([]:List Nat),j<2;decide) (fun cl C s₂ H₂ fp=>(xK (zaM (K:=K) rfl) (pv 0) (uG (za zm (za zm zc))) (by with_unfolding_all rfl)))) zc)))))),?_⟩
 have hlen:(ns.map V.int).length=ns.length:=ztc _
 refine⟨_,rfl,r,_,rfl,.inl hq,_,rfl,l,_,rfl,.inl hl,rfl,_,rfl,yc (fun c=>?_) (fun c=>?_)⟩
 ·have c':ns.length=xs.length:=by
   have:=of_decide_eq_true c
   injection this with this
   rw[hlen] at this;omega
  refine⟨_,rfl,r,rfl,⟨_,hq⟩,zdc (fun x v=>v=(match x with | .int i=>.bl (i==0||i==1) | _=>.non)) hq (by rw[hlen];exact ztv (zO hz)) ?_ ?_ ?_⟩
  ·intro i x H' hx g
   rw[zte] at hx
   cases ho:ns[i]? with
   | none=>rw[ho] at hx;cases hx
   | some y =>
    rw[ho] at hx
    cases hx
    refine⟨_,rfl,by show 2<=sizeLine;decide,fun p hp=>⟨p,_,rfl,.inr (wY.of zf),rfl,rfl,?_,g.trans (Same.new hp _)⟩⟩
    show V.bl ((0==y)||((1==y)||false))=V.bl (y==0||y==1)
    have e0:((0:Int)==y)=(y==0):=by rw[ztS];simp;exact eq_comm
    have e1:((1:Int)==y)=(y==1):=by rw[ztS];simp;exact eq_comm
    rw[e0,e1,Bool.or_false]
  ·rintro σ' H' Q1 Q2 hQ ⟨v,e,z,h2⟩
   exact⟨v,e,z,fun p hp=>let ⟨a1,a2,a3,a4,a5,a6,a7⟩:=h2 p hp;⟨a1,a2,a3,a4,a5,a6,hQ _ _ a7⟩⟩
  ·intro ys H' p hr' g hp
   have e:=Ko (f:=fun x=>match x with | .int i=>.bl (i==0||i==1) | _=>.non) hr'
   have e2:ys=(ns.map fun i=>(i==0||i==1)).map V.bl:=by rw[e,ztO,ztO];rfl
   subst e2
   refine⟨p,_,rfl,zP.of zf,?_⟩
   have e4:(ns.map fun i=>(i==0||i==1)).all id=V6 xs.length ns:=by
    unfold V6
    rw[decide_eq_true c',Bool.true_and,List.all_map]
    rfl
   rw[e4]
   exact q _ (g.trans (Same.new hp _))
 ·have e4:V6 xs.length ns=false:=by
   unfold V6
   rw[decide_eq_false (fun z=>c (decide_eq_true (by rw[hlen,z]))),Bool.false_and]
  rw[<-e4]
  exact q _ (Same.refl _)
theorem zfq (T:Txt P w K mg a):zF P w K mg base zY (k+1) a.Td a.Te Wn (Qn K):=by
 refine T.zbl.F.ok Xh (fun vs H Q E h=>?_) (fun cdv A outer s H vs Q E hr h=>?_)
 ·obtain⟨N,n,f,l,r,rfl,_⟩:=h
  rfl
 obtain⟨N,n,f,l,r,rfl,tb,hq,hl,hn,q⟩:=h
 refine⟨_,(zj (zH 2 Xh.nd zm)
   (zj (xX PassesOwn.never rfl (zks rfl T.R8 (za (pv 1) zc)) (zcR rfl (Xc (yw (i:=3) Xh.nd rfl (Or.inl rfl)) (Xc (yw (i:=4) Xh.nd rfl (Or.inl rfl)) zaa))) (zq (zH 2 Xh.nd (zK Vt (pv 2) (zK ZQ (pv 4) (pv 3))))))
   (zq (zL (zK Zg (zK zgZ (pv 0) (pv 2)) zm))))),?_⟩
 have len:(zZ r).length=n:=by rw[ztc];exact hl
 have two:∀b:Bool,b.toNat<2^10000:=fun b=>zcm (k:=1) (by cases b<;>decide) (by decide)
 refine⟨_,rfl,l,zZ r,rfl,hq,?_⟩
 refine ziR (xs:=zZ r) (fun i σ H'=>Same H H'/\∃(f1 f2:Option V),σ=[some (.int N),some (.ref l),some (.int (zx (r.take i):Nat)),f1,f2]) ⟨Same.refl _,_,_,rfl⟩ ?_ ?_ ?_
 ·rintro i σ H' _ ⟨g,_⟩
  exact g.seq hq
 ·rintro i x σ H' p hx ⟨g,f1,f2,rfl⟩ hp
  have hi:i<r.length:=by
   have:=(ztf.mp hx).1
   rw[ztc] at this;exact this
  have ex:x=V.int ((r[i]).toNat:Nat):=by
   rw[zte,ztd hi] at hx
   exact(ztH hx).symm
  subst ex
  refine⟨p,_,rfl,wY.of zf,rfl,_,_,rfl,_,_,rfl,rfl,?_⟩
  have lb:=Yt (r.take i)
  rw[ztA,Nat.min_eq_left (by omega)] at lb
  refine⟨_,rfl,_,rfl,_,rfl,(r[i]).toNat,i,rfl,rfl,two _,by omega,_,_,rfl,rfl,?_⟩
  refine⟨g.trans (SJ hp _),some (.int (i:Nat)),some (.int ((r[i]).toNat:Nat)),?_⟩
  have et:r.take (i+1)=r.take i++[r[i]]:=by rw[List.take_succ,ztd hi];rfl
  have e2:=Mt (r.take i) r[i]
  rw[<-et,ztA,Nat.min_eq_left (by omega),<-ziX lb] at e2
  rw[e2]
  rfl
 ·rintro σ H' ⟨g,f1,f2,rfl⟩
  rw[len,<-hl,ztF]
  refine⟨_,rfl,_,rfl,_,_,rfl,rfl,_,1,rfl,rfl,?_⟩
  have lb:=Yt r
  have e:(N / 2^zx r&&&1)=(f (zx r)).toNat:=by
   rw[Nat.and_one_is_mod,QW,Nat.testBit_div_two_pow,Nat.zero_add,tb (zx r),<-hl,decide_eq_true lb,Bool.true_and]
  show Q (.int ((N / 2^zx r&&&1:Nat):Int)) H'
  rw[e]
  exact q H' g
theorem zbx (T:Txt P w K mg a)
  (Ma:zF P w K mg base zY k a.Tp a.Tq Ws (QF a.zE K))
  (zgD:zF P w K mg base zY k a.NK a.NP U9 (KH a.zE))
  (ZC:zF P w K mg base zY k a.Wa a.Wb YC (Wm))
  (Xb:zF P w K mg base zY k a.Y6 a.Y7 tV (zap K))
  (vU:zF P w K mg base zY k a.vQ a.vR wM (uJ (yV a.zE)))
  (zjS:zF P w K mg base zY k a.Li a.Lj Rt (zaf K))
  (zgE:zF P w K mg base zY k a.Td a.Te Wn (Qn K)):zF P w K mg base zY (k+1) a.VF a.VG YT (zdG a.zE):=by
 refine T.Py.F.ok Wt (fun vs H Q E h=>?_) (fun cdv A outer s H vs Q E hr h=>?_)
 ·obtain⟨b,l,e,os,rs,F,k0,ks,rows,rfl,_⟩:=h
  rfl
 obtain⟨b,l,e,os,rs,F,k0,ks,rows,rfl,hB,hk,hl,lq,l3,hR,r3,r1,q⟩:=h
 refine⟨_,(zj (yq (PW.pt (Q7 (ZJ (xU (zp Ma hr T.NT (za (pv 0) (za (pv 1) (za (pv 2) zc)))) (fun _=>rfl))) (Us (zJ TV (zB zy rfl T.yu zX (za (pv 3) zc)) (zB zy rfl T.yu zX (za (pv 2) zc)) (zM _))))) (zq (zL ZF)) zT)
   (zj (yq (ZJ (xU (zB (vW rfl) rfl T.T8 Xm (za (vg (wV:=zu v9) (js:=[0,1]) rfl (by show uX _ _ "cube" ["book", "room"];exact Ku (by decide +kernel)) rfl (yF (pv 2)) (by show ∀j∈([0,1]:List Nat),j<6;decide) (fun cl C s₂ H₂ fp=>(zp zgD hr T.zbo (za (pv 1) (za (pv 2) (za (pv 0) zc)))))) zc)) (fun _=>rfl))) (zq (zL ZF)) zT)
   (zj (Ka (i:=4) Wt.nd rfl (Or.inr rfl) (zp Xb hr T.Y8 (za (vg (wV:=zu v9) (js:=[]) rfl (by show uX _ _ "cube" [];exact Ku (by decide +kernel)) rfl (yF (pv 2)) (by show ∀j∈([]:List Nat),j<6;decide) (fun cl C s₂ H₂ fp=>(zp ZC hr T.Wc (za (pv 0) zc)))) zc)))
   (zj (Ka (i:=5) Wt.nd rfl (Or.inr rfl) (Qs (pv 0) T.yQ T.Yo vU hr))
   (zq (zL (zB (vW rfl) rfl T.T8 Xm (za (zmy (wV:=zu v9) (js:=[5,4]) rfl (by show zcu (zu v9) _ "cube" "row" ["order", "own"];exact⟨⟨rfl,by decide +kernel,by decide +kernel,by decide +kernel,by decide +kernel⟩,by decide +kernel,by decide +kernel,by decide +kernel⟩) rfl (zji rfl T.zlK (za (pv 2) (za (pv 3) zc))) (by show ∀j∈([5,4]:List Nat),j<6;decide) (fun cl C s₂ H₂ fp=>(LR (zp zjS hr T.zfa (za (pv 2) (za (pv 1) zc))) (zaw (xK yH (zp zgE hr T.zbl (za (zK Zg (zp ZC hr T.Wc (za (pv 0) zc)) (pv 3)) (za (pv 1) zc))) zm (zM _)))))) zc)))))))),?_⟩
 have L:=uK a.zE
 have o8:=(L.ord hB).le
 obtain⟨ps,he,pp⟩:=id hR
 have lp:=yU pp
 have q:=fun H' g=>q H' g
 unfold Rq at q
 refine⟨_,rfl,_,rfl,_,rfl,b,l,os,rs,F,k0,ks,rfl,hB,hk,zP.of hl,lq,fun H1 g1=>⟨_,rfl,?_⟩⟩
 obtain⟨T0,hT⟩:∃T0:Cb->Nat,∀c,z9 os.length (T0 c) (xJ c):=⟨fun c=>(zdD os.length (xJ c)).choose,fun c=>(zdD os.length (xJ c)).choose_spec⟩
 have ro:∀{c:Cb},c∈ks->∀{H':Hp} {Q0:VK},(∀H3,Same H' H3->Q0 (.int (T0 c:Nat)) H3)->Wm [cbV c] H' Q0 E0:=fun {c} hc {H' Q0} h=>⟨c,rfl,by have:=lq c hc;omega,fun R H3 g3 tR=>by
  rw[lq c hc] at tR
  obtain rfl:R=T0 c:=yN.Vc tR (hT c) fun _ _=>rfl
  exact h _ g3⟩
 cases ec:M5 os.length (tB rs k0) ks with
 | false =>
  rw[ec] at q
  exact Wh (Wh (q _ g1))
 | true =>
 rw[ec,Bool.true_and] at q
 refine yr ⟨_,rfl,e,_,rfl,.inl (zP.of (g1 _ _ he)),_,rfl,l,_,rfl,.inl (zP.of (g1 _ _ hl)),rfl,_,rfl,?_⟩
 rw[ztc,ztc,lp]
 by_cases el:rows.length=ks.length
 rotate_left
 ·rw[decide_eq_false el,Bool.false_and] at q
  refine ifA ?_ (q _ g1)
  rw[decide_eq_false fun z=>el (by injection z;omega)]
  rfl
 rw[decide_eq_true el,Bool.true_and] at q
 refine ifB (by rw[el,decide_eq_true rfl];rfl) ?_
 have hl1:=g1 _ _ hl
 refine⟨_,rfl,l,rfl,⟨_,zP.of hl1⟩,?_⟩
 refine QD cbV (fun c=>.bl (yE os.length (tB rs k0) c)) (zP.of hl1) (wz (by omega)) (fun c H' Q0 hc g hQ=>⟨_,rfl,_,rfl,_,rfl,b,os,rs,F,k0,c,rfl,L.same hB (g1.trans g),hk,lq c hc,fun H3 g3=>hQ _ g3⟩) (fun H2 l2 g2 hl2=>?_)
 have em:ks.map (fun c=>V.bl (yE os.length (tB rs k0) c))=(ks.map (yE os.length (tB rs k0))).map V.bl:=by rw[ztO];rfl
 rw[em]
 have g3:=g1.trans (g2.trans (Same.new hl2 (.lst ((ks.map (yE os.length (tB rs k0))).map V.bl))))
 refine⟨l2,_,rfl,zP.of zf,ks.all (yE os.length (tB rs k0)),?_,?_⟩
 ·show _=(ks.map (yE os.length (tB rs k0))).all id
  rw[List.all_map]
  rfl
 generalize upd H2 l2 _=H3 at g3 ⊢
 cases ep:ks.all (yE os.length (tB rs k0)) with
 | false =>
  rw[ep] at q
  exact Wh (q _ g3)
 | true =>
 rw[ep,Bool.true_and] at q
 refine yr ?_
 have hl3:=g3 _ _ hl
 refine⟨_,rfl,l,rfl,⟨_,zP.of hl3⟩,?_⟩
 refine QD cbV (fun c=>.int (T0 c:Nat)) (zP.of hl3) (wz (by omega)) (fun c H' Q0 hc g hQ=>⟨_,rfl,ro hc hQ⟩) (fun H4 l4 g4 hl4=>?_)
 have ev:ks.map (fun c=>V.int (T0 c:Nat))=(ks.map T0).map fun N=>V.int (N:Nat):=by rw[ztO];rfl
 rw[ev]
 have g5:=g3.trans (g4.trans (Same.new hl4 (.lst ((ks.map T0).map fun N=>V.int (N:Nat)))))
 have pv:∀ks:List Cb,Paired (z9 os.length) (ks.map T0) (ks.map xJ):=fun ks=>by
  induction ks with
  | nil=>exact .nil
  | cons c ks ih=>exact .cons (hT c) ih
 refine⟨l4,os.length,ks.map T0,ks.map xJ,rfl,zP.of zf,pv ks,fun R tR=>?_⟩
 generalize upd H4 l4 _=H5 at g5 ⊢
 have hB5:=L.same hB g5
 obtain⟨dx,fs,zd1,hm⟩:=L.ins hB5
 refine⟨_,rfl,b,dx,fs,rfl,zd1,hm _ (by decide +kernel),b,os,rs,F,rfl,hB5,fun lo H6 g6 hlo h6=>?_⟩
 have g7:=g5.trans g6
 refine⟨_,rfl,_,rfl,l,e,_,_,rfl,zP.of (g7 _ _ hl),zP.of (g7 _ _ he),?_⟩
 refine zk8 (fun i=>.bl (shw os.length ks (ks.getD i []) (rows.getD i []))) (zP.of (g7 _ _ hl)) (zP.of (g7 _ _ he)) (by rw[ztc,ztc];omega) (by rw[ztc];exact wz (by omega)) (fun i u v H' Q0 hu hv g hQ=>?_) (fun H8 l8 g8 hl8=>?_)
 ·rw[zte] at hu hv
  cases hc:ks[i]? with
  | none=>rw[hc] at hu;cases hu
  | some c =>
  cases hp:ps[i]? with
  | none=>rw[hp] at hv;cases hv
  | some p =>
  rw[hc] at hu
  rw[hp] at hv
  cases hu
  cases hv
  obtain⟨ns,hn,hpn⟩:=tO pp hp
  have mc:=zth hc
  rw[ztp,ztp,hc,hn] at hQ
  have gz:=g7.trans g
  refine⟨_,rfl,_,rfl,lo,p,os.map V.str,ns,rfl,zP.of (g _ _ h6),zP.of (gz _ _ hpn),r1 ns (zth hn),fun H9 g9=>⟨_,rfl,?_⟩⟩
  rw[ztc]
  have hQ:∀H3,Same H' H3->Q0 (.bl (shw os.length ks c ns)) H3:=hQ
  unfold shw at hQ
  cases er:V6 os.length ns with
  | false =>
   rw[er] at hQ
   exact yr (hQ _ g9)
  | true =>
   rw[er,Bool.true_and] at hQ
   obtain⟨ev2,lb⟩:=zcD er
   rw[ev2] at hpn
   refine Wh ⟨_,rfl,ro mc fun Ha ga=>⟨_,rfl,T0 c,R,rfl,rfl,_,rfl,T0 c&&&R,os.length,_,p,Z0 ns,rfl,Zf (hT c) tR,zP.of ((gz.trans (g9.trans ga)) _ _ hpn),lb,o8,fun Hb gb=>⟨rfl,?_⟩⟩⟩
   have eb:∀x:Bool,decide (V.int ((x.toNat:Nat):Int)=V.int 1)=x:=fun x=>by cases x<;>rfl
   rw[eb]
   exact hQ _ (g9.trans (ga.trans gb))
 ·rw[ztc]
  have em2:(List.range ks.length).map (fun i=>V.bl (shw os.length ks (ks.getD i []) (rows.getD i [])))=((List.range ks.length).map fun i=>shw os.length ks (ks.getD i []) (rows.getD i [])).map V.bl:=by rw[ztO];rfl
  rw[em2]
  refine⟨l8,_,rfl,zP.of zf,?_⟩
  rw[List.all_map]
  exact q _ (g7.trans (g8.trans (Same.new hl8 _)))
theorem zfr (T:Txt P w K mg a)(zR:zF P w K mg base zY k a.xu a.xG yW (Vu)):zF P w K mg base zY (k+1) a.Tr a.Tt XQ KJ:=by
 refine T.Ln.F.ok zbQ (fun vs H Q E h=>?_) (fun cdv A outer s H vs Q E hr h=>?_)
 ·obtain⟨c,n,rfl,_⟩:=h
  rfl
 obtain⟨c,n,rfl,n8,q⟩:=h
 refine⟨_,(zq (zL (vf PySem.F.plainAttrs_str PySem.F.slot_str_join PySem.F.type_str_join zjv yg (za (vg (wV:=zu Tc) (js:=[0]) rfl (by show uX _ _ "k" ["cell"];exact Ku (by decide +kernel)) rfl (wZ rfl T.uE (za (pv 1) zc)) (by show ∀j∈([0]:List Nat),j<2;decide) (fun cl C s₂ H₂ fp=>(z8 PN yg (zp zR hr T.zV (za (pv 1) (za (pv 0) (za zm zc)))) (fun _ _=>rfl)))) zc)))),?_⟩
 refine⟨rfl,_,rfl,(n:Int),rfl,by omega,by omega,?_⟩
 rw[ztP]
 refine zhl (n:=n) (fun i ys H'=>Same H H'/\∃qs:Cb,ys=qs.map (fun s=>V.str (cbS [s]))/\qs.length=i) ⟨Same.refl _,[],rfl,rfl⟩ (ztv (zO (by omega))) ?_ ?_ ?_
 ·rintro i ys H' _ ⟨_,zs,rfl,e⟩
  rw[ztc,e];exact zts _
 ·rintro i ys H' Q0 hi ⟨g,zs,rfl,e⟩ hn
  refine⟨_,rfl,_,rfl,c,0+i,3,?_,by omega,by decide,by decide,fun r r0 r1=>?_⟩
  ·show [V.int c,V.int ((0:Int)+(i:Int)),V.int 3]=_
   rw[Int.zero_add,Nat.zero_add]
  have:∃s:Option Bool,atI (Str.ofString "01-").cps.toList r=some (Ua s):=by
   have r3:r=0\/r=1\/r=2:=by omega
   rcases r3 with rfl | rfl | rfl
   ·exact⟨some false,by decide +kernel⟩
   ·exact⟨some true,by decide +kernel⟩
   ·exact⟨none,by decide +kernel⟩
  obtain⟨s0,hs⟩:=this
  exact⟨_,_,_,rfl,rfl,by decide +kernel,hs,hn _ _ ⟨g,zs++[s0],by rw[ztq];rfl,by rw[ztk,e];rfl⟩⟩
 ·rintro ys H' p ⟨g,zs,rfl,e⟩ hp
  exact⟨p,zs,rfl,rfl,zP.of zf,by omega,q zs _ (g.trans (Same.new hp _)) e⟩
theorem K9 (T:Txt P w K mg a):zF P w K mg base zY (k+1) a.uz a.uD wO U6:=by
 refine T.Vq.F.ok xq (fun vs H Q E h=>?_) (fun cdv A outer s H vs Q E hr h=>?_)
 ·obtain⟨c,rfl,_⟩:=h
  rfl
 obtain⟨c,rfl,c8,q⟩:=h
 refine⟨_,(zj (zH 1 xq.nd (yM (za (yM zc) zc)))
   (zj (xX PassesOwn.never rfl (zjf (pv 0)) (yw (i:=2) xq.nd rfl (Or.inr rfl)) (zj (zH 3 xq.nd (yM zc))
   (zj (xX PassesOwn.never rfl (yF (pv 1)) (yw (i:=4) xq.nd rfl (Or.inr rfl)) (zq (yh (vf PySem.F.plainAttrs_list PySem.F.slot_list_extend PySem.F.type_list_extend Kh (pv 3) (za (zc2 (wV:=zu Z4) (js:=[4,2]) rfl (by show uX _ _ "value" ["row", "sign"];exact Ku (by decide +kernel)) rfl (zcT (uG (za zm (za zm zc)))) (by show ∀j∈([4,2]:List Nat),j<5;decide) (fun cl C s₂ H₂ fp=>(zJ (zaM (K:=K) rfl) (pv 2) (yM (za yg (za (wF Kz rfl T.zhx zc6 (za (pv 0) zc)) zc))) (by with_unfolding_all rfl))) (fun cl C s₂ H₂ fp=>(zK (zaZ rfl) (pv 1) (yM (za (pv 0) zc))))) zc)))))
   (zq (zH 1 xq.nd (pv 3))))))
   (zq (zL (pv 1))))),?_⟩
 have p256:∀i,(cbR (c.take i)).length<=256:=fun i=>zty (zeO _) (zty (ztI (n:=2) (by decide) (show(c.take i).length<=8 by rw[ztA];omega)) (by decide))
 refine⟨by show 0<=sizeLine;decide,fun q0 hq0=>⟨by show 1<=sizeLine;decide,fun l0 hl0=>?_⟩⟩
 have g0:=(Same.new hq0 (.lst [])).trans (Same.new hl0 (.lst [.ref q0]))
 have e2:=(Same.new hl0 (.lst [.ref q0])) q0 (.lst []) zf
 have fl0:H l0=none:=(Same.new hq0 _).free hl0
 refine⟨_,rfl,cbS c,rfl,zaj c,?_⟩
 refine zk1 (fun i σ H'=>i<=c.length/\∃(l:Addr) (es:List Addr) (f2 f3 f4:Option V),Same H H'/\H l=none/\H' l=some (.lst (es.map V.ref))/\Paired (zf6 H H') es (cbR (c.take i))/\σ=[some (.str (cbS c)),some (.ref l),f2,f3,f4])
  ⟨ztz _,l0,[q0],_,_,_,g0,fl0,zf,.cons ⟨hq0,e2⟩ .nil,rfl⟩ ?_ ?_
 ·rintro i cc σ H2 hcc ⟨_,l,es,f2,f3,f4,g2,fl,hl,he,rfl⟩
  obtain⟨s0,hs,rfl⟩:=zgf hcc
  have hi:i<c.length:=(ztf.mp hs).1
  have el:=yU he
  have lt:=p256 i
  refine⟨by show 0<=sizeLine;decide,fun lg hlg=>?_⟩
  have g3:=Same.new hlg (.lst [])
  have flg:H lg=none:=g2.free hlg
  refine⟨_,rfl,l,rfl,⟨_,zP.of (g3 _ _ hl)⟩,?_⟩
  refine vV (xs:=es.map V.ref) (fun m σ H'=>∃(us:List Addr) (f4:Option V),Same H2 H'/\H' lg=some (.lst (us.map V.ref))/\Paired (zhZ lg H H') us (((cbR (c.take i)).take m).flatMap (zgj s0))/\us.length<=2*m/\σ=[some (.str (cbS c)),some (.ref l),some (.str ⟨#[Ua s0]⟩),some (.ref lg),f4])
   ⟨[],_,g3,zf,.nil,ztz _,rfl⟩ ?_ ?_ ?_
  ·rintro m σ H' _ ⟨us,f4,g,_⟩
   exact zP.of (g _ _ hl)
  ·rintro m x σ H3 hx ⟨us,f4,g,hL0,hu,lu,rfl⟩
   rw[zte] at hx
   cases hp:es[m]? with
   | none=>rw[hp] at hx;cases hx
   | some p =>
    rw[hp] at hx
    cases hx
    obtain⟨e,hee,fp,hpt⟩:=tO he hp
    have hm:m<es.length:=(ztf.mp hp).1
    have hp2:=g _ _ hpt
    have eln:e.length<=8:=by
     have:=yN.vY _ e (List.mem_filter.mp (zth hee)).1
     rw[ztA] at this
     omega
    refine⟨_,rfl,.inl ⟨rfl,_,zP.of hL0⟩,?_⟩
    refine⟨by show 2<=sizeLine;decide,fun tv htv=>?_⟩
    have gt:=Same.new htv (.tup [.int 0,.int 1])
    have et:upd H3 tv (.tup [.int 0,.int 1]) tv=some _:=zf
    have hLt:=gt _ _ hL0
    have zog:=gt _ _ hp2
    generalize upd H3 tv _=H4 at gt et hLt zog ⊢
    refine⟨tv,rfl,⟨_,wY.of et⟩,?_⟩
    refine zk2 (xs:=[.int 0,.int 1]) (fun n ys H'=>Same H4 H'/\∃ws:List Addr,ys=ws.map V.ref/\ws.length<=n/\Paired (fun w r=>w≠lg/\H w=none/\H' w=some (.lst (zZ r))) ws (([false,true].take n).flatMap fun v=>if mtS s0 v then [e++[v]] else [])) ⟨Same.refl _,[],rfl,ztz _,.nil⟩ (by decide) ?_ ?_ ?_
    ·rintro n ys H' _ ⟨g',ws,rfl,lw,_⟩
     exact⟨wY.of (g' _ _ et),by rw[ztc];exact lw⟩
    ·rintro n x ys H5 Q1 Q2 hx ⟨g',ws,rfl,lw,pw⟩ h1 h2
     obtain⟨v,rfl,hv⟩:∃v:Bool,x=.int (v.toNat:Nat)/\[false,true][n]?=some v:=by
      match n,hx with
      | 0,hx=>cases hx;exact⟨false,rfl,rfl⟩
      | 1,hx=>cases hx;exact⟨true,rfl,rfl⟩
     refine⟨_,rfl,_,rfl,v,rfl,by show 2<=sizeLine;decide,fun d hd=>?_⟩
     have gd:=Same.new hd (.lst [.str "-", .str (zbL v)])
     have ed:upd H5 d (.lst [.str "-", .str (zbL v)]) d=some _:=zf
     generalize upd H5 d _=H6 at gd ed ⊢
     have gg:=g'.trans gd
     have pw6:Paired (fun w r=>w≠lg/\H w=none/\H6 w=some (.lst (zZ r))) ws _:=yO (fun _ _ z=>⟨z.1,z.2.1,gd _ _ z.2.2⟩) pw
     refine⟨d,_,rfl,.inl (zP.of ed),rfl,rfl,_,rfl,?_⟩
     rw[zeP s0 v]
     have tk:[false,true].take (n+1)=[false,true].take n++[v]:=yj hv
     cases em:mtS s0 v with
     | false =>
      refine yr (h2 _ ⟨gg,ws,rfl,by omega,?_⟩)
      rw[tk,List.flatMap_append]
      show Paired _ ws (_++((if mtS s0 v then [e++[v]] else [])++[]))
      rw[em,List.append_nil]
      show Paired _ ws (_++[])
      rw[List.append_nil]
      exact pw6
     | true =>
      refine Wh ⟨_,rfl,_,rfl,by show 1<=sizeLine;decide,fun a0 ha0=>?_⟩
      have ka:=Same.new ha0 (.lst [.int (v.toNat:Nat)])
      refine⟨p,a0,_,_,rfl,rfl,zP.of ((gg.trans ka) _ _ zog),zP.of zf,?_,fun r0 hr0=>?_⟩
      ·unfold zZ
       rw[ztc]
       exact ztv (zO (by show e.length+1<=1000;omega))
      have kb:=ka.trans (Same.new hr0 (.lst (zZ e++[.int (v.toNat:Nat)])))
      refine h1 _ _ ⟨gg.trans kb,ws++[r0],by rw[ztq];rfl,by rw[ztk];show ws.length+1<=n+1;omega,?_⟩
      rw[tk,List.flatMap_append]
      show Paired _ (ws++[r0]) (_++((if mtS s0 v then [e++[v]] else [])++[]))
      rw[em,List.append_nil]
      refine Xn (yO (fun _ _ z=>⟨z.1,z.2.1,kb _ _ z.2.2⟩) pw6) (.cons ⟨?_,?_,?_⟩ .nil)
      ·exact Ne.symm (zA ((gg.trans ka) _ _ hLt) hr0)
      ·exact(g2.trans (g.trans (gt.trans (gg.trans ka)))).free hr0
      ·rw[zf];unfold zZ;rw[ztq];rfl
    ·rintro ys H5 d ⟨g',ws,rfl,lw,pw⟩ hd
     have gd:=Same.new hd (.lst (ws.map V.ref))
     have kc:=gt.trans (g'.trans gd)
     have lw:ws.length<=2:=lw
     have nd:d≠lg:=Ne.symm (zA (g' _ _ hLt) hd)
     refine⟨lg,d,_,_,rfl,rfl,(g'.trans gd) _ _ hLt,zf,by rw[ztc,ztc];exact ztv (zO (by omega)),?_⟩
     refine⟨us++ws,_,(g.trans kc).over hlg _,by rw[zf,ztq],?_,by rw[ztk];omega,rfl⟩
     rw[yj hee,List.flatMap_append]
     refine Xn (zcv (zaW hu kc)) ?_
     have ex:([false,true].take ([V.int 0,.int 1].length)).flatMap (fun v=>if mtS s0 v then [e++[v]] else [])=[e].flatMap (zgj s0):=by
      show(if mtS s0 false then [e++[false]] else [])++((if mtS s0 true then [e++[true]] else [])++[])=zgj s0 e++[]
      rw[List.append_nil,List.append_nil]
      rfl
     rw[ex] at pw
     exact yO (fun w r z=>⟨z.2.1,z.1,by rw[zG z.1];exact gd _ _ z.2.2⟩) pw
  ·rintro σ H3 ⟨us,f4,g,hL0,hu,_,rfl⟩
   rw[ztc,el,ztF] at hu
   refine⟨_,rfl,hi,lg,us,_,_,_,g2.trans g,flg,hL0,?_,rfl⟩
   have et:c.take (i+1)=c.take i++[s0]:=yj hs
   rw[et,zjx]
   exact yO (fun _ _ r=>⟨r.1,r.2.2⟩) hu
 ·rintro σ H2 ⟨_,l,es,f2,f3,f4,g2,fl,hl,he,rfl⟩
  rw[Wk,ztF] at he
  exact⟨_,rfl,q l H2 es g2 fl hl he⟩
theorem zbZ (T:Txt P w K mg a)(Lw:zF P w K mg base zY k a.uz a.uD wO (U6)):zF P w K mg base zY (k+1) a.WL a.WM Z5 za3:=by
 refine T.WY.F.ok JW (fun vs H Q E h=>?_) (fun cdv A outer s H vs Q E hr h=>?_)
 ·obtain⟨c,yl,f,rfl,_⟩:=h
  rfl
 obtain⟨c,yl,f,rfl,c8,hy,q⟩:=h
 refine⟨_,(zq (zL (zB (vW rfl) rfl T.T8 Xm (za (vg (wV:=zu Wv) (js:=[1]) rfl (by show uX _ _ "row" ["yes"];exact Ku (by decide +kernel)) rfl (yF (zp Lw hr T.Vq (za (pv 0) zc))) (by show ∀j∈([1]:List Nat),j<2;decide) (fun cl C s₂ H₂ fp=>(xK (zja (K:=K) rfl (hu9 hr)) (pv 0) (pv 1) (by with_unfolding_all rfl)))) zc)))),?_⟩
 refine⟨_,rfl,c,rfl,c8,fun l H1 ps g1 fl hl hp=>?_⟩
 have el:=yU hp
 have zsF:(cbR c).length<=256:=zty (zeO _) (zty (ztI (n:=2) (by decide) c8) (by decide))
 refine⟨l,rfl,⟨_,zP.of hl⟩,?_⟩
 refine Rk (xs:=ps.map V.ref) (fun i ys H'=>Same H1 H'/\ys=(((cbR c).take i).map fun r=>f (zx r)).map V.bl) ⟨Same.refl _,rfl⟩ (by rw[ztc];exact ztv (zO (by omega))) ?_ ?_ ?_
 ·rintro i ys H' hi ⟨g,rfl⟩
  refine⟨zP.of (g _ _ hl),?_⟩
  rw[ztc,ztc,ztA]
  omega
 ·rintro i x ys H' Q0 hx ⟨g,rfl⟩ hQ
  rw[zte] at hx
  cases hpi:ps[i]? with
  | none=>rw[hpi] at hx;cases hx
  | some p =>
   rw[hpi] at hx
   cases hx
   obtain⟨r,hr',fp,hpr⟩:=tO hp hpi
   have rl:=yN.vY _ r (List.mem_filter.mp (zth hr')).1
   obtain⟨ys2,hyl,hys⟩:=hy.mono (g1.trans g)
   refine⟨_,rfl,_,rfl,yl,_,_,rfl,.inl (zP.of hyl),zeI hys (zP.of (g _ _ hpr)),hQ _ _ ⟨g,?_⟩⟩
   rw[yj hr',ztq,ztq]
   refine congrArg (fun b=>_++[V.bl b]) ?_
   rw[if_neg ztg,KC hys]
   rw[ztS,decide_eq_true_iff]
   exact zho rl
 ·rintro ys H' p ⟨g,rfl⟩ hpn
  rw[ztc,el,ztF]
  refine⟨p,_,rfl,zP.of zf,?_⟩
  rw[List.all_map]
  rw[zeQ] at q
  exact q _ (g1.trans (g.trans (Same.new hpn _)))
theorem zd3 (T:Txt P w K mg a)(Qc:zF P w K mg base zY k a.WL a.WM Z5 (za3)):zF P w K mg base zY (k+1) a.VL a.VN YX Ni:=by
 refine T.PB.F.ok RB (fun vs H Q E h=>?_) (fun cdv A outer s H vs Q E hr h=>?_)
 ·obtain⟨c,yl,f,rfl,_⟩:=h
  rfl
 obtain⟨c,yl,f,rfl,c8,hy,q⟩:=h
 refine⟨_,(zj (yq (ZJ (xU (zp Qc hr T.WY (za (pv 0) (za (pv 1) zc))) (fun _=>rfl))) (zq (zL ZF)) zT)
   (zj (xX PassesOwn.never rfl (wZ rfl T.uE (za (zB ZM rfl T.yu zX (za (pv 0) zc)) zc)) (yw (i:=2) RB.nd rfl (Or.inl rfl)) (zq (yq (PW.pt (ZG (zJ TV (z8 PN (pv 0) (pv 2) (fun _ _=>rfl)) yg (zM _)) (Ze (xU (zp Qc hr T.WY (za (zK wu (zK wu (wK Rj (pv 0) uV (vL (pv 2))) yg) (wK Rj (pv 0) (vL (zK xH (pv 2) zm)) uV)) (za (pv 1) zc))) (fun _=>rfl))))) (zq (zL ZF)) zT)))
   (zq (zL ZF)))),?_⟩
 have lz:(cbS c).length<=sizeLine:=by rw[yt];exact ztv (zO (by omega))
 unfold yE at q
 refine⟨_,rfl,_,rfl,c,yl,f,rfl,c8,hy,fun H1 g1=>⟨_,rfl,?_⟩⟩
 cases e:inB c.length f c with
 | false =>
  rw[e,Bool.false_and] at q
  exact Wh (q _ g1)
 | true =>
  rw[e,Bool.true_and] at q
  refine yr ⟨_,rfl,cbS c,rfl,lz,(c.length:Int),by rw[yt],by omega,by omega,?_⟩
  rw[ztP]
  refine uU (lo:=0) (n:=c.length) (fun i σ H'=>Same H H'/\(((Mg c).filter fun j=>decide (j<i)).all fun j=>!inB c.length f (c.set j none))=true/\∃f2:Option V,σ=[some (.str (cbS c)),some (.ref yl),f2]) ⟨g1,by rw[List.filter_eq_nil_iff.mpr fun j _=>by simp];rfl,_,rfl⟩ ?_ ?_
  ·rintro i σ H2 hi ⟨g,ih,f2,rfl⟩
   have ei:(0:Int)+(i:Int)=(i:Int):=by omega
   rw[ei]
   have hs:c[i]?=some c[i]:=ztd hi
   generalize c[i]=s0 at hs
   have step:=za1 (q:=c) hs
   refine⟨_,rfl,_,rfl,cbS c,_,_,rfl,rfl,lz,yC (zak hs),rfl,_,rfl,?_⟩
   cases s0 with
   | none =>
    refine zf7 (show V.str ⟨#[45]⟩=V.str "-" by decide +kernel) (yr ⟨g,?_,_,rfl⟩)
    rw[step]
    show((_++[]).all _)=true
    rw[List.append_nil]
    exact ih
   | some v =>
    have ne:V.str ⟨#[Ua (some v)]⟩≠V.str "-" := by cases v<;>decide +kernel
    show if (!decide (V.str ⟨#[Ua (some v)]⟩=V.str "-"))=true then _ else _
    rw[decide_eq_false ne]
    refine Wh ⟨_,rfl,_,rfl,_,rfl,cbS c,rfl,lz,?_⟩
    rw[zam (ztv hi)]
    have l1:(cbS (c.take i)).length+(Str.ofString "-").length<=sizeLine:=by
     rw[yt,ztA]
     exact ztv (zO (by show min i c.length+1<=1000;omega))
    refine⟨_,_,rfl,rfl,l1,?_⟩
    rw[dash,XF]
    refine⟨_,rfl,_,rfl,_,_,rfl,rfl,_,rfl,cbS c,rfl,lz,?_⟩
    have er:(i:Int)+1=((i+1:Nat):Int):=rfl
    rw[er,zan (by omega:i+1<=c.length)]
    refine⟨_,_,rfl,rfl,?_,?_⟩
    ·rw[yt,yt,ztk,ztA,List.length_drop]
     exact ztv (zO (by show min i c.length+1+(c.length-(i+1))<=1000;omega))
    rw[XF]
    have es:c.take i++[none]++c.drop (i+1)=c.set i none:=by
     rw[List.set_eq_take_append_cons_drop,if_pos hi,List.append_assoc]
     rfl
    rw[es]
    have ls:(c.set i none).length=c.length:=List.length_set
    refine⟨_,rfl,c.set i none,yl,f,rfl,by omega,by rw[ls];exact hy.mono g,fun H3 g3=>⟨_,rfl,?_⟩⟩
    rw[ls]
    cases e2:inB c.length f (c.set i none) with
    | true =>
     have:(wid c).any (inB c.length f)=true:=List.any_eq_true.mpr ⟨_,List.mem_map.mpr ⟨i,List.mem_filter.mpr ⟨List.mem_range.mpr hi,by rw[ztp,hs];rfl⟩,rfl⟩,e2⟩
     rw[this] at q
     exact Wh (q _ (g.trans g3))
    | false =>
     refine yr ⟨g.trans g3,?_,_,rfl⟩
     rw[step,List.all_append,ih]
     show(true&&([i].all fun j=>!inB c.length f (c.set j none)))=true
     rw[List.all_cons,e2]
     rfl
  ·rintro σ H2 ⟨g,ih,f2,rfl⟩
   have ef:((Mg c).filter fun j=>decide (j<c.length))=Mg c:=List.filter_eq_self.mpr fun j hj=>decide_eq_true (zdv j hj)
   rw[ef] at ih
   have:(wid c).any (inB c.length f)=false:=by
    rw[List.any_eq_false]
    intro d hd
    obtain⟨j,hj,rfl⟩:=List.mem_map.mp hd
    have:=ztG.mp ih j hj
    cases e3:inB c.length f (c.set j none) with
    | false=>exact ztg
    | true=>rw[e3] at this;cases this
   rw[this] at q
   exact q _ g
theorem zgF (T:Txt P w K mg a):zF P w K mg base zY (k+1) a.Xi a.Xj Zz Nk:=by
 refine T.R6.F.ok zdQ (fun vs H Q E h=>?_) (fun cdv A outer s H vs Q E hr h=>?_)
 ·obtain⟨c,p,r,rfl,_⟩:=h
  rfl
 obtain⟨c,p,r,rfl,hp,lc,r8,q⟩:=h
 refine⟨_,(zq (zL (zB (vW rfl) rfl T.T8 Xm (za (vg (wV:=zu RD) (js:=[0,1]) rfl (by show uX _ _ "k" ["cube", "row"];exact Ku (by decide +kernel)) rfl (wZ rfl T.uE (za (zB zy rfl T.yu zX (za (pv 1) zc)) zc)) (by show ∀j∈([0,1]:List Nat),j<2;decide) (fun cl C s₂ H₂ fp=>(xK (zaM (K:=K) rfl) (z8 PN (pv 1) (pv 0) (fun _ _=>rfl)) (yM (za yg (za (wF Kz rfl T.zhx zc6 (za (z8 (zaN (K:=K) rfl) (pv 2) (pv 0) (fun _ _=>rfl)) zc)) zc))) (by with_unfolding_all rfl)))) zc)))),?_⟩
 have lrv:(zZ r).length=r.length:=ztc _
 have lz:(cbS c).length<=sizeLine:=by rw[yt];exact ztv (zO (by omega))
 refine⟨_,rfl,p,_,rfl,.inl (zP.of hp),_,rfl,by omega,by omega,?_⟩
 rw[lrv,ztP]
 refine zkQ (n:=r.length) (fun i=>.bl (mtS (c.getD i none) (r.getD i false))) (ztv (zO (by omega))) (fun i H' Q0 hi g hQ=>?_) (fun H' l g hl=>?_)
 ·rw[Int.zero_add]
  have hs:c[i]?=some (c.getD i none):=by rw[ztp,ztd (by omega)];rfl
  have hv:r[i]?=some (r.getD i false):=by rw[ztp,ztd hi];rfl
  refine⟨_,rfl,_,rfl,cbS c,_,_,rfl,rfl,lz,yC (zak hs),_,rfl,_,rfl,p,_,_,_,rfl,rfl,zP.of (g _ _ hp),yC (by unfold zZ;rw[zte,hv];rfl),r.getD i false,rfl,by show 2<=sizeLine;decide,fun d hd=>?_⟩
  refine⟨d,_,rfl,.inl (zP.of zf),rfl,rfl,?_⟩
  rw[if_neg ztg,zeP]
  exact hQ _ (Same.new hd _)
 ·have em:(List.range r.length).map (fun i=>V.bl (mtS (c.getD i none) (r.getD i false)))=((List.range r.length).map fun i=>mtS (c.getD i none) (r.getD i false)).map V.bl:=by rw[ztO];rfl
  rw[em]
  refine⟨l,_,rfl,zP.of zf,?_⟩
  rw[List.all_map]
  have y:=q _ (g.trans (Same.new hl (.lst (((List.range r.length).map fun i=>mtS (c.getD i none) (r.getD i false)).map V.bl))))
  rw[zk9 lc] at y
  exact y
theorem zb0 (T:Txt P w K mg a)(TQ:zF P w K mg base zY k a.Yi a.Yj tD V9)
  (Qd:zF P w K mg base zY k a.Xi a.Xj Zz Nk):zF P w K mg base zY (k+1) a.Yk a.Yl uO QG:=by
 refine T.W0.F.ok T5 (fun vs H Q E h=>?_) (fun cdv A outer s H vs Q E hr h=>?_)
 ·obtain⟨l,yl,n,f,ks,rfl,_⟩:=h
  rfl
 obtain⟨l,yl,n,f,ks,rfl,hl,lk,n8,l3,hy,q⟩:=h
 refine⟨_,(zj (xX PassesOwn.never rfl (yF (zp TQ hr T.Tz (za (pv 2) zc))) (yw (i:=3) T5.nd rfl (Or.inr rfl)) (zq (yq (zJ TV (xK Yq (zB zy rfl T.yu zX (za (zc2 (wV:=zu Ww) (js:=[3]) rfl (by show uX _ _ "cube" ["row"];exact Ku (by decide +kernel)) rfl (yF (pv 0)) (by show ∀j∈([3]:List Nat),j<4;decide) (fun cl C s₂ H₂ fp=>(zco (K:=K) rfl (zp Qd hr T.R6 (za (pv 0) (za (pv 1) zc))) (fun _=>rfl))) (fun cl C s₂ H₂ fp=>(pv 0))) zc)) zm (zM _)) (xK (zja (K:=K) rfl (hu9 hr)) (pv 3) (pv 1) (by with_unfolding_all rfl)) (zM _)) (zq (zL ZF)) zT)))
   (zq (zL ZF))),?_⟩
 rw[zh7] at q
 refine⟨_,rfl,n,rfl,n8,fun rl H1 ps g1 _ hrl pp=>?_⟩
 have lps:=yU pp
 have zpL:(yN.allR n).length<=256:=by rw[yN.V8];exact zty (ztI (n:=2) (by decide) n8) (by decide)
 refine⟨rl,rfl,⟨_,zP.of hrl⟩,?_⟩
 refine vV (xs:=ps.map V.ref) (fun i σ H'=>Same H1 H'/\(((yN.allR n).take i).all fun r=>(ks.any fun c=>xJ c (zx r))==f (zx r))=true/\∃f3:Option V,σ=[some (.ref l),some (.ref yl),some (.int (n:Nat)),f3]) ⟨Same.refl _,rfl,_,rfl⟩ (fun i σ H' _ ⟨g,_⟩=>zP.of (g _ _ hrl)) ?_ ?_
 ·rintro i x σ H2 hx ⟨g,ih,f3,rfl⟩
  rw[zte] at hx
  cases hpi:ps[i]? with
  | none=>rw[hpi] at hx;cases hx
  | some p =>
   rw[hpi] at hx
   cases hx
   obtain⟨r,hr',_,hpr⟩:=tO pp hpi
   have rl':=yN.vY _ r (zth hr')
   have hl2:=(g1.trans g) _ _ hl
   refine⟨_,rfl,l,rfl,⟨_,zP.of hl2⟩,?_⟩
   refine za7 (tt:=fun σ H Q=>Ml Nk [] E0 (V2 (Sh 0) (V2 (Sh 1) zbE)) σ H fun x H'=>∃k,ziv K x H' k/\Q k H') cbV (fun c=>xJ c (zx r)) (zP.of hl2) (wz (by omega)) (fun x H' Q h=>⟨_,rfl,h⟩) (fun c H' Q0 hc g' hQ=>?_) (fun H3 l3' g3 hl3=>?_)
   ·exact⟨_,rfl,_,rfl,c,p,r,rfl,(g.trans g') _ _ hpr,by rw[lk c hc,rl'],by omega,fun H4 g4=>⟨_,rfl,hQ _ (g'.trans g4)⟩⟩
   have g4:=Same.new hl3 (.lst ((ks.filter fun c=>xJ c (zx r)).map cbV))
   have e4:upd H3 l3' (.lst ((ks.filter fun c=>xJ c (zx r)).map cbV)) l3'=some _:=zf
   generalize upd H3 l3' _=H4 at g4 e4 ⊢
   have gg:=g.trans (g3.trans g4)
   obtain⟨ys2,hyl,hys⟩:=hy.mono (g1.trans gg)
   refine⟨l3',_,rfl,.inl (zP.of e4),_,_,rfl,rfl,_,rfl,_,rfl,yl,_,_,rfl,.inl (zP.of hyl),zeI hys (zP.of (gg _ _ hpr)),rfl,_,rfl,?_⟩
   have e1:decide ((0:Int)<((ks.filter fun c=>xJ c (zx r)).length:Nat))=ks.any fun c=>xJ c (zx r):=by
    rw[ztS,decide_eq_true_iff,List.any_eq_true]
    constructor
    ·intro z
     obtain⟨c,hc⟩:=List.exists_mem_of_length_pos (show 0<(ks.filter fun c=>xJ c (zx r)).length by omega)
     exact⟨c,List.mem_filter.mp hc⟩
    ·rintro⟨c,hc⟩
     have:=List.length_pos_of_mem (List.mem_filter (p:=fun c=>xJ c (zx r)).mpr hc)
     omega
   have e2:decide (r∈(yN.allR n).filter fun r=>f (zx r))=f (zx r):=by
    rw[ztS,decide_eq_true_iff]
    exact zho rl'
   have e3:(!decide (V.bl (decide ((0:Int)<(((ks.filter fun c=>xJ c (zx r)).map cbV).length:Nat)))=V.bl (if false=true then !(ys2.map V.ref).any (Pb H4 r) else (ys2.map V.ref).any (Pb H4 r))))=!decide ((ks.any fun c=>xJ c (zx r))=f (zx r)):=by
    rw[if_neg ztg,KC hys,ztc,e1,e2]
    congr 1
    exact decide_eq_decide.mpr ⟨V.bl.inj,fun z=>by rw[z]⟩
   by_cases e:(ks.any fun c=>xJ c (zx r))=f (zx r)
   ·refine ifB (e3.trans (by rw[decide_eq_true e];rfl)) ⟨gg,?_,_,rfl⟩
    rw[yj hr',List.all_append,ih,Bool.true_and]
    show((ks.any fun c=>xJ c (zx r))==f (zx r)&&true)=true
    rw[e,beq_self_eq_true]
    rfl
   ·refine ifA (e3.trans (by rw[decide_eq_false e];rfl)) ?_
    have z:((yN.allR n).all fun r=>(ks.any fun c=>xJ c (zx r))==f (zx r))=false:=by
     rw[Bool.eq_false_iff]
     intro z
     exact e (eq_of_beq (ztG.mp z r (zth hr')))
    rw[z] at q
    exact q _ (g1.trans gg)
 ·rintro σ H' ⟨g,ih,f3,rfl⟩
  rw[ztc,lps,ztF] at ih
  rw[ih] at q
  exact q _ (g1.trans g)
theorem zd4 (T:Txt P w K mg a)
  (W8:zF P w K mg base zY k a.Yk a.Yl uO QG)
  (zb1:zF P w K mg base zY k a.VL a.VN YX Ni)
  (Qd:zF P w K mg base zY k a.Xi a.Xj Zz Nk):zF P w K mg base zY (k+1) a.VP a.VR Y0 za9:=by
 refine T.PJ.F.ok RG (fun vs H Q E h=>?_) (fun cdv A outer s H vs Q E hr h=>?_)
 ·obtain⟨l,e,yl,n,f,ks,rows,rfl,_⟩:=h
  rfl
 obtain⟨l,e,yl,n,f,ks,rows,rfl,hl,lk,n8,l3,hy,hR,r3,r1,q⟩:=h
 refine⟨_,(zj (yq (PW.pt (Q7 (ZJ (xU (zp W8 hr T.W0 (za (pv 0) (za (pv 2) (za (pv 3) zc)))) (fun _=>rfl))) (Us (zJ TV (zB zy rfl T.yu zX (za (pv 1) zc)) (zB zy rfl T.yu zX (za (pv 0) zc)) (zM _))))) (zq (zL ZF)) zT)
   (zj (xX PassesOwn.never rfl (wZ rfl T.uE (za (zB zy rfl T.yu zX (za (pv 1) zc)) zc)) (yw (i:=4) RG.nd rfl (Or.inr rfl)) (zj (yq (PW.pt (Q7 (zJ TV (zB zy rfl T.yu zX (za (z8 yd (pv 1) (pv 4) (fun _ _=>rfl)) zc)) (pv 3) (zM _)) (Us (ZJ (xU (zB (vW rfl) rfl T.T8 Xm (za (vg (wV:=zu YZ) (js:=[]) rfl (by show uX _ _ "value" [];exact Ku (by decide +kernel)) rfl (yF (z8 yd (pv 1) (pv 4) (fun _ _=>rfl))) (by show ∀j∈([]:List Nat),j<5;decide) (fun cl C s₂ H₂ fp=>(xK (zaM (K:=K) rfl) (pv 0) (uG (za zm (za zm zc))) (by with_unfolding_all rfl)))) zc)) (fun _=>rfl)))))) (zq (zL ZF)) zT)
   (zj (yq (ZJ (xU (zp zb1 hr T.PB (za (z8 yd (pv 0) (pv 4) (fun _ _=>rfl)) (za (pv 2) zc))) (fun _=>rfl))) (zq (zL ZF)) zT)
   (zq (yq (zJ (zmu rfl (hu8 hr)) (zc2 (wV:=zu YZ) (js:=[0,1,4]) rfl (by show uX _ _ "j" ["cubes", "rows", "k"];exact Ku (by decide +kernel)) rfl (wZ rfl T.uE (za (zB zy rfl T.yu zX (za (pv 0) zc)) zc)) (by show ∀j∈([0,1,4]:List Nat),j<5;decide) (fun cl C s₂ H₂ fp=>(zco (K:=K) rfl (zp Qd hr T.R6 (za (z8 (zaN (K:=K) rfl) (pv 1) (pv 0) (fun _ _=>rfl)) (za (z8 (zaN (K:=K) rfl) (pv 2) (pv 3) (fun _ _=>rfl)) zc))) (fun _=>rfl))) (fun cl C s₂ H₂ fp=>(pv 0))) (yM (za (pv 4) zc)) (zM _)) (zq (zL ZF)) zT)))))
   (zq (zL ZF)))),?_⟩
 obtain⟨ps,he,pp⟩:=id hR
 have lp:=yU pp
 refine⟨_,rfl,_,rfl,_,rfl,l,yl,n,f,ks,rfl,hl,lk,n8,l3,hy,fun H1 g1=>⟨_,rfl,?_⟩⟩
 cases ec:M5 n f ks with
 | false =>
  have q:=fun H' g=>q H' g
  unfold Rq at q
  rw[ec] at q
  exact Wh (Wh (q _ g1))
 | true =>
 refine yr ⟨_,rfl,e,_,rfl,.inl (zP.of (g1 _ _ he)),_,rfl,l,_,rfl,.inl (zP.of (g1 _ _ hl)),rfl,_,rfl,?_⟩
 rw[ztc,ztc,lp]
 by_cases el:rows.length=ks.length
 rotate_left
 ·have q:=fun H' g=>q H' g
  unfold Rq at q
  rw[ec,decide_eq_false el,Bool.false_and] at q
  refine ifA ?_ (q _ g1)
  rw[decide_eq_false fun z=>el (by injection z;omega)]
  rfl
 rw[zgk ec el] at q
 refine ifB (by rw[el,decide_eq_true rfl];rfl) ?_
 refine⟨_,rfl,e,_,rfl,.inl (zP.of (g1 _ _ he)),_,rfl,by omega,Int.lt_of_le_of_lt (show(((ps.map V.ref).length:Nat):Int)<=3000 by rw[ztc];omega) (by decide),?_⟩
 rw[ztc,ztP,lp,el]
 refine uU (lo:=0) (n:=ks.length) (fun i σ H'=>Same H H'/\((List.range i).all fun i=>xV.V6 n (rows.getD i [])&&(yE n f (ks.getD i [])&&decide (((List.range ks.length).filter fun j=>xJ (ks.getD j []) (zx (Z0 (rows.getD i []))))=[i])))=true/\∃f4:Option V,σ=[some (.ref l),some (.ref e),some (.ref yl),some (.int (n:Nat)),f4]) ⟨g1,rfl,_,rfl⟩ ?_ ?_
 ·rintro i σ H2 hi ⟨g,ih,f4,rfl⟩
  have ei:(0:Int)+(i:Int)=(i:Int):=by omega
  rw[ei]
  have no:(xV.V6 n (rows.getD i [])&&(yE n f (ks.getD i [])&&decide (((List.range ks.length).filter fun j=>xJ (ks.getD j []) (zx (Z0 (rows.getD i []))))=[i])))=false->∀H3,Same H H3->Q (.bl false) H3:=fun z H3 g3=>by
   have y:=q H3 g3
   have:((List.range ks.length).all fun i=>xV.V6 n (rows.getD i [])&&(yE n f (ks.getD i [])&&decide (((List.range ks.length).filter fun j=>xJ (ks.getD j []) (zx (Z0 (rows.getD i []))))=[i])))=false:=by
    rw[Bool.eq_false_iff]
    intro t
    rw[ztG] at t
    have:=t i (List.mem_range.mpr hi)
    rw[z] at this
    cases this
   rw[this] at y
   exact y
  obtain⟨c,hc⟩:∃c,ks[i]?=some c:=⟨_,ztd hi⟩
  obtain⟨p,hp⟩:∃p,ps[i]?=some p:=⟨_,ztd (by omega)⟩
  obtain⟨ns,hns,hpn⟩:=tO pp hp
  have gc:ks.getD i []=c:=by rw[ztp,hc];rfl
  have gn:rows.getD i []=ns:=by rw[ztp,hns];rfl
  have lc:=lk c (zth hc)
  have ln:=r1 ns (zth hns)
  have atp:atI (ps.map V.ref) (i:Int)=some (.ref p):=yC (by rw[zte,hp];rfl)
  have atc:atI (ks.map cbV) (i:Int)=some (cbV c):=yC (by rw[zte,hc];rfl)
  have go:(xV.V6 n ns&&(yE n f c&&decide (((List.range ks.length).filter fun j=>xJ (ks.getD j []) (zx (Z0 ns)))=[i])))=true->((List.range (i+1)).all fun i=>xV.V6 n (rows.getD i [])&&(yE n f (ks.getD i [])&&decide (((List.range ks.length).filter fun j=>xJ (ks.getD j []) (zx (Z0 (rows.getD i []))))=[i])))=true:=fun z=>by
   rw[List.range_succ,List.all_append,ih,Bool.true_and]
   show(_&&true)=true
   rw[Bool.and_true]
   show(xV.V6 n (rows.getD i [])&&(yE n f (ks.getD i [])&&decide (((List.range ks.length).filter fun j=>xJ (ks.getD j []) (zx (Z0 (rows.getD i []))))=[i])))=true
   rw[gc,gn]
   exact z
  rw[gc,gn] at no
  clear ih
  refine⟨_,rfl,_,rfl,e,_,_,_,rfl,rfl,zP.of (g _ _ he),atp,p,_,rfl,.inl (zP.of (g _ _ hpn)),_,rfl,rfl,_,rfl,?_⟩
  rw[ztc]
  by_cases en:ns.length=n
  rotate_left
  ·refine ifA ?_ (Wh (no (by unfold xV.V6;rw[decide_eq_false en];rfl) _ g))
   rw[decide_eq_false fun z=>en (by injection z;omega)]
   rfl
  refine ifB (by rw[en,decide_eq_true rfl];rfl) ⟨_,rfl,_,rfl,e,_,_,_,rfl,rfl,zP.of (g _ _ he),atp,p,rfl,⟨_,zP.of (g _ _ hpn)⟩,?_⟩
  refine QD V.int (fun y=>.bl (y==0||y==1)) (zP.of (g _ _ hpn)) (ztv (zO ln)) (fun y H' Q0 hy' g' hQ=>?_) (fun H3 l2 g3 hl2=>?_)
  ·refine⟨_,rfl,by show 2<=sizeLine;decide,fun p hp=>⟨p,_,rfl,.inr (wY.of zf),rfl,rfl,?_⟩⟩
   have e0:((0:Int)==y)=(y==0):=by rw[ztS];simp;exact eq_comm
   have e1:((1:Int)==y)=(y==1):=by rw[ztS];simp;exact eq_comm
   have ev:inV (.int y) [V.int 0,V.int 1]=(y==0||y==1):=by
    show((0==y)||((1==y)||false))=_
    rw[e0,e1,Bool.or_false]
   rw[if_neg ztg,ev]
   exact hQ _ (Same.new hp _)
  have em:ns.map (fun y=>V.bl (y==0||y==1))=(ns.map fun y=>(y==0||y==1)).map V.bl:=by rw[ztO];rfl
  rw[em]
  have g4:=g.trans (g3.trans (Same.new hl2 (.lst ((ns.map fun y=>(y==0||y==1)).map V.bl))))
  refine⟨l2,_,rfl,zP.of zf,xV.V6 n ns,?_,?_⟩
  ·unfold xV.V6
   rw[decide_eq_true en,Bool.true_and,List.all_map]
   rfl
  generalize upd H3 l2 _=H4 at g4 ⊢
  cases er:xV.V6 n ns with
  | false=>exact Wh (no (by rw[er];rfl) _ g4)
  | true =>
  refine yr ?_
  refine⟨_,rfl,_,rfl,l,_,_,_,rfl,rfl,zP.of (g4 _ _ hl),atc,_,rfl,c,yl,f,rfl,by omega,by rw[lc];exact hy.mono g4,fun H5 g5=>⟨_,rfl,?_⟩⟩
  rw[lc]
  cases ep:yE n f c with
  | false=>exact Wh (no (by rw[er,ep];rfl) _ (g4.trans g5))
  | true =>
  have g6:=g4.trans g5
  refine yr ⟨_,rfl,l,_,rfl,.inl (zP.of (g6 _ _ hl)),_,rfl,by omega,Int.lt_of_le_of_lt (show(((ks.map cbV).length:Nat):Int)<=3000 by rw[ztc];omega) (by decide),?_⟩
  rw[ztc,ztP]
  obtain⟨rv,rl⟩:=zcD er
  refine zjq (tt:=fun σ H Q=>Ml Nk [] E0 (V2 (tOp (zkf K) (Sh 1) (Sh 0)) (V2 (tOp (zkf K) (Sh 2) (Sh 3)) zbE)) σ H fun x H'=>∃k,ziv K x H' k/\Q k H') (fun j=>xJ (ks.getD j []) (zx (Z0 ns))) (wz (by omega)) (fun x H' Q h=>⟨_,rfl,h⟩) (fun j H' Q0 hj g' hQ=>?_) (fun H7 l7 g7 hl7=>?_)
  ·obtain⟨d,hd⟩:∃d,ks[j]?=some d:=⟨_,ztd hj⟩
   have gd:ks.getD j []=d:=by rw[ztp,hd];rfl
   have gg:=g6.trans g'
   rw[Int.zero_add]
   rw[gd] at hQ
   exact⟨_,rfl,_,rfl,l,_,_,_,rfl,rfl,zP.of (gg _ _ hl),yC (by rw[zte,hd];rfl),_,rfl,_,rfl,e,_,_,_,rfl,rfl,zP.of (gg _ _ he),atp,d,p,Z0 ns,rfl,by rw[<-rv];exact gg _ _ hpn,by rw[rl,lk d (zth hd)],by omega,fun H8 g8=>⟨_,rfl,hQ _ (g'.trans g8)⟩⟩
  refine⟨_,rfl,by show 1<=sizeLine;decide,fun l8 h8=>?_⟩
  have ga:=Same.new hl7 (.lst (XD ((List.range ks.length).filter fun j=>xJ (ks.getD j []) (zx (Z0 ns)))))
  have gb:=Same.new h8 (.lst [.int (i:Nat)])
  have gl:=g6.trans (g7.trans (ga.trans gb))
  refine⟨decide (((List.range ks.length).filter fun j=>xJ (ks.getD j []) (zx (Z0 ns)))=[i]),fun z=>absurd z.1 ztg,zjo (n:=7) (y:=[i]) (zP.of (gb _ _ zf)) (zP.of zf),_,rfl,?_⟩
  cases ee:decide (((List.range ks.length).filter fun j=>xJ (ks.getD j []) (zx (Z0 ns)))=[i]) with
  | false=>exact Wh (no (by rw[er,ep,ee];rfl) _ gl)
  | true=>exact yr ⟨gl,go (by rw[er,ep,ee];rfl),_,rfl⟩
 ·rintro σ H' ⟨g,ih,f4,rfl⟩
  rw[ih] at q
  exact q _ g
theorem Lx (T:Txt P w K mg a)(zR:zF P w K mg base zY k a.xu a.xG yW Vu)
  (zd5:zF P w K mg base zY k a.Tr a.Tt XQ KJ):zF P w K mg base zY (k+1) a.Zv a.Zw vN zdI:=by
 refine T.W2.F.ok wW (fun vs H Q E h=>?_) (fun cdv A outer s H vs Q E hr h=>?_)
 ·obtain⟨l,c,n,ks,rfl,_⟩:=h
  rfl
 obtain⟨tl,c,n,js,rfl,hl,lk,n1,n8,l29,q⟩:=h
 refine⟨_,(zj (zH 3 wW.nd (zK wQ (zp zR hr T.zV (za (pv 1) (za zm (za zm zc)))) (zB (V1 rfl) rfl T.zfd zaV (za zm (za (zB zy rfl T.yu zX (za (pv 0) zc)) zc)))))
   (zj (zH 4 wW.nd (zp zR hr T.zV (za (pv 1) (za zm (za zm zc)))))
   (zj (yq (PW.pt (ZG (zJ yH (pv 4) zm (zM _)) (Ze (zJ Yq (zB zy rfl T.yu zX (za (pv 0) zc)) zm (zM _))))) (zq (yh (vf PySem.F.plainAttrs_list PySem.F.slot_list_pop PySem.F.type_list_pop zel (pv 0) (za (pv 3) zc)))) zT)
   (zj (yq (zJ yH (pv 4) zm (zM _)) (zq (yh (vf PySem.F.plainAttrs_list PySem.F.slot_list_insert PySem.F.type_list_insert Qi (pv 0) (za (pv 3) (za (zp zd5 hr T.Ln (za (zp zR hr T.zV (za (pv 1) (za zm (za (zK zit zm zm) zc)))) (za (pv 2) zc))) zc))))) zT)
   (zj (yq (PW.pt (ZG (zJ yH (pv 4) zm (zM _)) (Ze (zJ Yq (zB zy rfl T.yu zX (za (pv 0) zc)) zm (zM _))))) (zj (zH 5 wW.nd (zK wQ (zp zR hr T.zV (za (pv 1) (za zm (za zm zc)))) (pv 2)))
   (zq (zax (zK wu (zK wu (wK Rj (z8 yd (pv 0) (pv 3) (fun _ _=>rfl)) uV (vL (pv 5))) (z8 PN yg (zp zR hr T.zV (za (pv 1) (za zm (za zm zc)))) (fun _ _=>rfl))) (wK Rj (z8 yd (pv 0) (pv 3) (fun _ _=>rfl)) (vL (zK xH (pv 5) zm)) uV)) (zcS (pv 0) (pv 3) set_list)))) zT)
   (zj (yq (PW.pt (ZG (zJ yH (pv 4) zm (zM _)) (Ze (zJ Yq (zB zy rfl T.yu zX (za (pv 0) zc)) zm (zM _))))) (zq (yh (vf PySem.F.plainAttrs_list PySem.F.slot_list_insert PySem.F.type_list_insert Qi (pv 0) (za (pv 3) (za (z8 yd (pv 0) (pv 3) (fun _ _=>rfl)) zc))))) zT)
   (zq (yq (PW.pt (ZG (zJ yH (pv 4) zm (zM _)) (Ze (zJ Yq (zB zy rfl T.yu zX (za (pv 0) zc)) zm (zM _))))) (zq (yh (zfS PySem.F.plainAttrs_list PySem.F.slot_list_reverse PySem.F.type_list_reverse zaE (pv 0)))) zT)))))))),?_⟩
 have lm:(js.map cbV).length=js.length:=ztc _
 have slz:js.length<sizeLine:=ztl (show js.length<10000 by omega) (wz (zts _))
 have keep:∀(H1:Hp),Same H H1->∀(o:HO),∀x o',H x=some o'->x≠tl->upd H1 tl o x=some o':=fun H1 g o x o' e ne=>by rw[zG ne];exact g _ _ e
 have stay:Q .non H:=q js H (fun x o e _=>e) hl lk (by omega)
 refine⟨_,rfl,c,1,60,rfl,by decide,by decide,by decide,fun r r0 r60=>?_⟩
 refine⟨_,rfl,tl,_,rfl,.inl (zP.of hl),_,_,rfl,_,_,rfl,rfl,?_,?_⟩
 ·show(0:Int)<if _ > _ then _ else _
  split<;>omega
 have hat:∃at':Nat,r%(if ((js.map cbV).length:Int) > 1 then ((js.map cbV).length:Int) else 1)=(at':Int)/\(0<js.length->at'<js.length)/\at'<=js.length:=by
  rw[lm]
  split
  ·have a1:=ztR r (show(0:Int)<js.length by omega)
   have a2:=ztV r (show(js.length:Int)≠0 by omega)
   refine⟨(r%(js.length:Int)).toNat,(Int.toNat_of_nonneg (ztV _ (by omega))).symm,fun _=>?_,?_⟩<;>omega
  ·exact⟨0,Int.emod_one r,fun h=>h,ztz _⟩
 obtain⟨at',eat,zfs,zf9⟩:=hat
 show uF 3 (V.int (r%(if ((js.map cbV).length:Int) > 1 then ((js.map cbV).length:Int) else 1))) _ _ _
 rw[eat]
 refine⟨_,rfl,c,2,5,rfl,by decide,by decide,by decide,fun kd k0 k5=>?_⟩
 have sk:∀{m:Int} {A B:Prop},kd≠m->B->(zhG (V.int kd) (V.int m)=true/\zhH (V.bl (decide (V.int kd=V.int m))) fun k=>if k=true then A else B):=fun ne b=>⟨rfl,_,rfl,by rw[decide_eq_false (fun e=>ne (by injection e)),if_neg ztg];exact b⟩
 have tk:∀{m:Int} {A B:Prop},kd=m->A->(zhG (V.int kd) (V.int m)=true/\zhH (V.bl (decide (V.int kd=V.int m))) fun k=>if k=true then A else B):=fun e b=>⟨rfl,_,rfl,by rw[decide_eq_true (by rw[e]),if_pos rfl];exact b⟩
 rcases (by omega:kd=0\/kd=1\/kd=2\/kd=3\/kd=4) with e | e | e | e | e
 ·skip
  refine⟨_,rfl,tk e ?_⟩
  refine⟨_,rfl,tl,_,rfl,.inl (zP.of hl),_,_,rfl,rfl,_,rfl,yc (fun cc=>?_) (fun cc=>?_)⟩
  ·have lp:0<js.length:=by
    have:=of_decide_eq_true cc
    rw[lm] at this
    omega
   have hlt:=zfs (by omega)
   have ez:js[at']?=some js[at']:=ztd hlt
   have mz:js[at']∈js:=ztT hlt
   generalize js[at']=z0 at ez mz
   have em:(js.map cbV)[at']?=some (cbV z0):=by rw[zte,ez];rfl
   have l63:js.length<2^63:=by omega
   have lz0:=lk z0 mz
   refine⟨_,rfl,.inl ⟨rfl,_,zP.of hl⟩,_,rfl,tl,_,_,_,_,rfl,rfl,hl,by omega,by omega,(zac (Qz (by rw[lm];exact hlt))).1,em,?_⟩
   refine⟨_,rfl,sk (by omega) ?_⟩
   refine⟨_,rfl,sk (by omega) (yr ?_)⟩
   refine⟨_,rfl,sk (by omega) (yr ?_)⟩
   refine⟨_,rfl,sk (by omega) (yr ?_)⟩
   refine q (js.eraseIdx at') _ (keep _ (Same.refl _) _) (by rw[zf,zdu]) (fun j h=>lk j (List.mem_of_mem_eraseIdx h)) (by have:=List.length_eraseIdx_le js at';omega)
  ·skip
   refine⟨_,rfl,sk (by omega) ?_⟩
   refine⟨_,rfl,sk (by omega) (yr ?_)⟩
   refine⟨_,rfl,sk (by omega) (yr ?_)⟩
   refine⟨_,rfl,sk (by omega) (yr ?_)⟩
   exact stay
 ·skip
  refine⟨_,rfl,sk (by omega) (yr ?_)⟩
  refine⟨_,rfl,tk e ?_⟩
  refine⟨_,rfl,.inl ⟨rfl,_,zP.of hl⟩,?_⟩
  refine⟨_,rfl,_,rfl,_,_,rfl,rfl,?_,c,3,1000000000,rfl,by decide,by decide,by decide,fun r3 _ _=>?_⟩
  ·exact⟨by decide,by decide,by decide⟩
  refine⟨_,rfl,r3,n,rfl,n8,fun z0 H1 g1 lz=>?_⟩
  refine⟨tl,_,_,_,rfl,rfl,g1 _ _ hl,by omega,by rw[lm];omega,by rw[lm];exact slz,?_⟩
  rw[ztP,zds (f:=cbV) (y:=z0)]
  refine⟨_,rfl,sk (by omega) (yr ?_)⟩
  refine⟨_,rfl,sk (by omega) (yr ?_)⟩
  refine⟨_,rfl,sk (by omega) (yr ?_)⟩
  exact q _ _ (keep _ g1 _) zf (fun j h=>(zdq h).elim (fun e=>by rw[e];exact lz) (lk j)) (by rw[zdr];omega)
 ·skip
  refine⟨_,rfl,sk (by omega) (yr ?_)⟩
  refine⟨_,rfl,sk (by omega) ?_⟩
  refine⟨_,rfl,tk e ?_⟩
  refine⟨_,rfl,tl,_,rfl,.inl (zP.of hl),_,_,rfl,rfl,_,rfl,yc (fun cc=>?_) (fun cc=>?_)⟩
  ·have lp:0<js.length:=by
    have:=of_decide_eq_true cc
    rw[lm] at this
    omega
   have hlt:=zfs (by omega)
   have ez:js[at']?=some js[at']:=ztd hlt
   have mz:js[at']∈js:=ztT hlt
   generalize js[at']=z0 at ez mz
   have em:(js.map cbV)[at']?=some (cbV z0):=by rw[zte,ez];rfl
   have l63:js.length<2^63:=by omega
   have lz0:=lk z0 mz
   refine⟨_,rfl,c,4,60,rfl,by decide,by decide,by decide,fun r4 _ _=>?_⟩
   refine⟨_,rfl,_,_,rfl,rfl,by show(0:Int)<(n:Int);omega,?_⟩
   have a1:=ztR r4 (show(0:Int)<n by omega)
   have a2:=ztV r4 (show(n:Int)≠0 by omega)
   obtain⟨pl,epl⟩:∃pl:Nat,r4%(n:Int)=(pl:Int):=⟨_,(Int.toNat_of_nonneg a2).symm⟩
   show uF 5 (V.int (r4%(n:Int))) _ _ _
   rw[epl] at a1 ⊢
   have hpl:pl<z0.length:=by omega
   have lz:(cbS z0).length<=sizeLine:=by rw[yt];exact ztv (zO (by omega))
   refine⟨_,rfl,_,rfl,tl,_,_,_,rfl,rfl,zP.of hl,yC em,_,rfl,_,rfl,cbS z0,rfl,lz,?_⟩
   rw[zam (ztv hpl)]
   refine⟨_,rfl,c,5,3,rfl,by decide,by decide,by decide,fun r5 r50 r51=>?_⟩
   have:∃s:Option Bool,atI (Str.ofString "01-").cps.toList r5=some (Ua s):=by
    have r3:r5=0\/r5=1\/r5=2:=by omega
    rcases r3 with rfl | rfl | rfl
    ·exact⟨some false,by decide +kernel⟩
    ·exact⟨some true,by decide +kernel⟩
    ·exact⟨none,by decide +kernel⟩
   obtain⟨s0,hs⟩:=this
   refine⟨_,_,_,rfl,rfl,by decide +kernel,hs,?_⟩
   rw[zkT]
   have l1:(cbS (z0.take pl)).length+(cbS [s0]).length<=sizeLine:=by
    rw[yt,yt,ztA]
    exact ztv (zO (by show min pl z0.length+1<=1000;omega))
   refine⟨_,_,rfl,rfl,l1,?_⟩
   rw[XF]
   refine⟨_,rfl,_,rfl,tl,_,_,_,rfl,rfl,zP.of hl,yC em,_,rfl,_,_,rfl,rfl,_,rfl,cbS z0,rfl,lz,?_⟩
   have er:(pl:Int)+1=((pl+1:Nat):Int):=rfl
   rw[er,zan (by omega:pl+1<=z0.length)]
   refine⟨_,_,rfl,rfl,?_,?_⟩
   ·rw[yt,yt,ztk,ztA,List.length_drop]
    exact ztv (zO (by show min pl z0.length+1+(z0.length-(pl+1))<=1000;omega))
   rw[XF]
   have es:z0.take pl++[s0]++z0.drop (pl+1)=z0.set pl s0:=by
    rw[List.set_eq_take_append_cons_drop,if_pos hpl,List.append_assoc]
    rfl
   rw[es]
   refine⟨_,rfl,_,rfl,tl,_,_,_,rfl,rfl,hl,Qz (by rw[lm];exact hlt),?_⟩
   refine⟨_,rfl,sk (by omega) (yr ?_)⟩
   refine⟨_,rfl,sk (by omega) (yr ?_)⟩
   refine q (js.set at' (z0.set pl s0)) _ (keep _ (Same.refl _) _) (by rw[zf,List.map_set]) (fun j h=>?_) (by rw[List.length_set];omega)
   rcases List.mem_or_eq_of_mem_set h with h | h
   ·exact lk j h
   ·rw[h,List.length_set];exact lz0
  ·skip
   refine⟨_,rfl,sk (by omega) (yr ?_)⟩
   refine⟨_,rfl,sk (by omega) (yr ?_)⟩
   exact stay
 ·skip
  refine⟨_,rfl,sk (by omega) (yr ?_)⟩
  refine⟨_,rfl,sk (by omega) ?_⟩
  refine⟨_,rfl,sk (by omega) (yr ?_)⟩
  refine⟨_,rfl,tk e ?_⟩
  refine⟨_,rfl,tl,_,rfl,.inl (zP.of hl),_,_,rfl,rfl,_,rfl,yc (fun cc=>?_) (fun cc=>?_)⟩
  ·have lp:0<js.length:=by
    have:=of_decide_eq_true cc
    rw[lm] at this
    omega
   have hlt:=zfs (by omega)
   have ez:js[at']?=some js[at']:=ztd hlt
   have mz:js[at']∈js:=ztT hlt
   generalize js[at']=z0 at ez mz
   have em:(js.map cbV)[at']?=some (cbV z0):=by rw[zte,ez];rfl
   have l63:js.length<2^63:=by omega
   have lz0:=lk z0 mz
   refine⟨_,rfl,.inl ⟨rfl,_,zP.of hl⟩,_,rfl,_,rfl,_,rfl,tl,_,_,_,rfl,rfl,zP.of hl,yC em,tl,_,_,_,rfl,rfl,hl,by omega,by rw[lm];omega,by rw[lm];exact slz,?_⟩
   rw[ztP,zds (f:=cbV) (y:=z0)]
   refine⟨_,rfl,sk (by omega) (yr ?_)⟩
   exact q _ _ (keep _ (Same.refl _) _) zf (fun j h=>(zdq h).elim (fun e=>by rw[e];exact lz0) (lk j)) (by rw[zdr];omega)
  ·skip
   refine⟨_,rfl,sk (by omega) (yr ?_)⟩
   exact stay
 ·skip
  refine⟨_,rfl,sk (by omega) (yr ?_)⟩
  refine⟨_,rfl,sk (by omega) ?_⟩
  refine⟨_,rfl,sk (by omega) (yr ?_)⟩
  refine⟨_,rfl,sk (by omega) (yr ?_)⟩
  refine⟨_,rfl,tk e ?_⟩
  refine⟨_,rfl,tl,_,rfl,.inl (zP.of hl),_,_,rfl,rfl,_,rfl,yc (fun cc=>?_) (fun cc=>?_)⟩
  ·refine⟨_,rfl,.inl ⟨rfl,_,zP.of hl⟩,tl,_,rfl,rfl,hl,?_⟩
   exact q js.reverse _ (keep _ (Same.refl _) _) (by rw[zf,List.map_reverse]) (fun j h=>lk j (List.mem_reverse.mp h)) (by rw[List.length_reverse];omega)
  ·exact stay
theorem Ja (T:Txt P w K mg a)(zR:zF P w K mg base zY k a.xu a.xG yW Vu):zF P w K mg base zY (k+1) a.Ym a.Yn uy zdJ:=by
 refine T.Vr.F.ok Zo (fun vs H Q E h=>?_) (fun cdv A outer s H vs Q E hr h=>?_)
 ·obtain⟨l,c,n,ps,rows,H0,m,rfl,_⟩:=h
  rfl
 obtain⟨tl,c,n,js,rows,H0,mm,rfl,nm,m15,g0,fl,hl,pp,nd,n8,l29,sm,q⟩:=h
 refine⟨_,(zj (zH 3 Zo.nd (zK wQ (zp zR hr T.zV (za (pv 1) (za zm (za zm zc)))) (zB (V1 rfl) rfl T.zfd zaV (za zm (za (zB zy rfl T.yu zX (za (pv 0) zc)) zc)))))
   (zj (zH 4 Zo.nd (zp zR hr T.zV (za (pv 1) (za zm (za zm zc)))))
   (zj (yq (PW.pt (ZG (zJ yH (pv 4) zm (zM _)) (ZG (zJ Yq (zB zy rfl T.yu zX (za (pv 0) zc)) zm (zM _)) (Ze (zJ Yq (zB zy rfl T.yu zX (za (z8 yd (pv 0) (pv 3) (fun _ _=>rfl)) zc)) zm (zM _)))))) (zq (zax (z8 yd (yM (za zm (za zm (za zm (za (zis zfG zm) zc))))) (zp zR hr T.zV (za (pv 1) (za zm (za zm zc)))) (fun _ _=>rfl)) (zcS (z8 yd (pv 0) (pv 3) (fun _ _=>rfl)) (zK wQ (zp zR hr T.zV (za (pv 1) (za zm (za zm zc)))) (zB zy rfl T.yu zX (za (z8 yd (pv 0) (pv 3) (fun _ _=>rfl)) zc))) set_list))) zT)
   (zj (yq (PW.pt (ZG (zJ yH (pv 4) zm (zM _)) (Ze (zJ Yq (zB zy rfl T.yu zX (za (pv 0) zc)) zm (zM _))))) (zq (yh (vf PySem.F.plainAttrs_list PySem.F.slot_list_append PySem.F.type_list_append uW (z8 yd (pv 0) (pv 3) (fun _ _=>rfl)) (za zm zc)))) zT)
   (zj (yq (PW.pt (ZG (zJ yH (pv 4) zm (zM _)) (ZG (zJ Yq (zB zy rfl T.yu zX (za (pv 0) zc)) zm (zM _)) (Ze (zJ Yq (zB zy rfl T.yu zX (za (z8 yd (pv 0) (pv 3) (fun _ _=>rfl)) zc)) zm (zM _)))))) (zq (yh (zfS PySem.F.plainAttrs_list PySem.F.slot_list_pop PySem.F.type_list_pop zmf (z8 yd (pv 0) (pv 3) (fun _ _=>rfl))))) zT)
   (zj (yq (PW.pt (ZG (zJ yH (pv 4) zm (zM _)) (Ze (zJ Yq (zB zy rfl T.yu zX (za (pv 0) zc)) zm (zM _))))) (zq (yh (vf PySem.F.plainAttrs_list PySem.F.slot_list_pop PySem.F.type_list_pop zel (pv 0) (za (pv 3) zc)))) zT)
   (zj (yq (zJ yH (pv 4) zm (zM _)) (zq (yh (vf PySem.F.plainAttrs_list PySem.F.slot_list_insert PySem.F.type_list_insert Qi (pv 0) (za (pv 3) (za (vg (wV:=zu Z6) (js:=[1]) rfl (by show uX _ _ "k" ["cell"];exact Ku (by decide +kernel)) rfl (wZ rfl T.uE (za (pv 2) zc)) (by show ∀j∈([1]:List Nat),j<5;decide) (fun cl C s₂ H₂ fp=>(zp zR hr T.zV (za (pv 1) (za (zK xH zm (pv 0)) (za zm zc)))))) zc))))) zT)
   (zq (yq (PW.pt (ZG (zJ yH (pv 4) zm (zM _)) (Ze (zJ Yq (zB zy rfl T.yu zX (za (pv 0) zc)) zm (zM _))))) (zq (yh (zfS PySem.F.plainAttrs_list PySem.F.slot_list_reverse PySem.F.type_list_reverse zaE (pv 0)))) zT))))))))),?_⟩
 have lm:(js.map V.ref).length=js.length:=ztc _
 have ljr:=yU pp
 have slz:js.length<sizeLine:=ztl (show js.length<10000 by omega) (wz (zts _))
 have sm1:∀r∈rows,r.length<=mm+1/\∀i∈r,-2<=i/\i<=2:=fun r h=>⟨Nat.le_succ_of_le (sm r h).1,(sm r h).2⟩
 have stay:Q .non H:=q js rows H g0 (fun x o e _ _=>e) hl pp nd (by omega) sm1
 have zjT:∀(H1:Hp),Same H H1->∀(o:HO),∀x o',H x=some o'->x≠tl->x∉js->upd H1 tl o x=some o':=fun H1 g o x o' e ne _=>by rw[zG ne];exact g _ _ e
 have ppL:∀(H1:Hp),Same H H1->∀(o:HO),Paired (fun p (ns:List Int)=>H0 p=none/\p≠tl/\upd H1 tl o p=some (.lst (ns.map V.int))) js rows:=fun H1 g o=>yO (fun p ns z=>⟨z.1,z.2.1,by rw[zG z.2.1];exact g _ _ z.2.2⟩) pp
 have put:∀{H1:Hp} {i:Nat} {p:Addr} {ns ns':List Int},Same H H1->js[i]?=some p->rows[i]?=some ns->ns'.length<=mm+1->(∀i∈ns',-2<=i/\i<=2)->Q .non (upd H1 p (.lst (ns'.map V.int))):=fun {H1 i p ns ns'} g hp hn l16 s2=>by
  obtain⟨ns0,e0,z1,z2,z3⟩:=tO pp hp
  obtain rfl:ns0=ns:=by rw[hn] at e0;exact(ztH e0).symm
  refine q js (rows.set i ns') _ ((g0.trans g).over z1 _) (fun x o e ne nj=>?_) ?_ (zgl pp nd hp (fun x y ne r=>⟨r.1,r.2.1,by rw[zG ne];exact g _ _ r.2.2⟩) ⟨z1,z2,zf⟩) nd (by rw[List.length_set];omega) (fun r hr=>?_)
  ·rw[zG (fun e'=>nj (by rw[e'];exact zth hp))]
   exact g _ _ e
  ·rw[zG (Ne.symm z2)]
   exact g _ _ hl
  ·rcases List.mem_or_eq_of_mem_set hr with h | h
   ·exact sm1 r h
   ·rw[h];exact⟨l16,s2⟩
 refine⟨_,rfl,c,1,60,rfl,by decide,by decide,by decide,fun r r0 r60=>?_⟩
 refine⟨_,rfl,tl,_,rfl,.inl (zP.of hl),_,_,rfl,_,_,rfl,rfl,?_,?_⟩
 ·show(0:Int)<if _ > _ then _ else _
  split<;>omega
 have hat:∃at':Nat,r%(if ((js.map V.ref).length:Int) > 1 then ((js.map V.ref).length:Int) else 1)=(at':Int)/\(0<js.length->at'<js.length)/\at'<=js.length:=by
  rw[lm]
  split
  ·have a1:=ztR r (show(0:Int)<js.length by omega)
   have a2:=ztV r (show(js.length:Int)≠0 by omega)
   refine⟨(r%(js.length:Int)).toNat,(Int.toNat_of_nonneg (ztV _ (by omega))).symm,fun _=>?_,?_⟩<;>omega
  ·exact⟨0,Int.emod_one r,fun h=>h,ztz _⟩
 obtain⟨at',eat,zfs,zf9⟩:=hat
 show uF 3 (V.int (r%(if ((js.map V.ref).length:Int) > 1 then ((js.map V.ref).length:Int) else 1))) _ _ _
 rw[eat]
 refine⟨_,rfl,c,2,6,rfl,by decide,by decide,by decide,fun kd k0 k5=>?_⟩
 have sk:∀{m:Int} {A B:Prop},kd≠m->B->(zhG (V.int kd) (V.int m)=true/\zhH (V.bl (decide (V.int kd=V.int m))) fun k=>if k=true then A else B):=fun ne b=>⟨rfl,_,rfl,by rw[decide_eq_false (fun e=>ne (by injection e)),if_neg ztg];exact b⟩
 have tk:∀{m:Int} {A B:Prop},kd=m->A->(zhG (V.int kd) (V.int m)=true/\zhH (V.bl (decide (V.int kd=V.int m))) fun k=>if k=true then A else B):=fun e b=>⟨rfl,_,rfl,by rw[decide_eq_true (by rw[e]),if_pos rfl];exact b⟩
 rcases (by omega:kd=0\/kd=1\/kd=2\/kd=3\/kd=4\/kd=5) with e | e | e | e | e | e
 ·skip
  refine⟨_,rfl,tk e ?_⟩
  refine⟨_,rfl,tl,_,rfl,.inl (zP.of hl),_,_,rfl,rfl,_,rfl,yc (fun cc=>?_) (fun cc=>?_)⟩
  ·have lp:0<js.length:=by
    have:=of_decide_eq_true cc
    rw[lm] at this
    omega
   have hlt:=zfs (by omega)
   obtain⟨p,hp⟩:∃p,js[at']?=some p:=⟨_,ztd hlt⟩
   obtain⟨ns,hns,z1,z2,z3⟩:=tO pp hp
   have em:(js.map V.ref)[at']?=some (.ref p):=by rw[zte,hp];rfl
   have l63:js.length<2^63:=by omega
   obtain⟨zlk,sm2⟩:=sm ns (zth hns)
   have lmn:(ns.map V.int).length=ns.length:=ztc _
   refine⟨_,rfl,_,rfl,tl,_,_,_,rfl,rfl,zP.of hl,yC em,p,_,rfl,.inl (zP.of z3),_,_,rfl,rfl,_,rfl,yc (fun c2=>?_) (fun c2=>?_)⟩
   rotate_left
   ·skip
    refine⟨_,rfl,sk (by omega) (yr ?_)⟩
    refine⟨_,rfl,sk (by omega) (yr ?_)⟩
    refine⟨_,rfl,sk (by omega) (yr ?_)⟩
    refine⟨_,rfl,sk (by omega) ?_⟩
    refine⟨_,rfl,sk (by omega) (yr ?_)⟩
    exact stay
   have ln:0<ns.length:=by
    have:=of_decide_eq_true c2
    rw[lmn] at this
    omega
   refine⟨_,rfl,by show 4<=sizeLine;decide,fun d hd=>?_⟩
   have gd:=Same.new hd (.lst [.int 0,.int 1,.int 2,.int (-1)])
   have ed:upd H d (.lst [.int 0,.int 1,.int 2,.int (-1)]) d=some _:=zf
   refine⟨_,rfl,c,4,4,rfl,by decide,by decide,by decide,fun r4 r40 r41=>?_⟩
   obtain⟨v,hv,sv⟩:∃v:Int,atI [V.int 0,.int 1,.int 2,.int (-1)] r4=some (.int v)/\-2<=v/\v<=2:=by
    have:r4=0\/r4=1\/r4=2\/r4=3:=by omega
    rcases this with rfl | rfl | rfl | rfl
    ·exact⟨0,rfl,by decide⟩
    ·exact⟨1,rfl,by decide⟩
    ·exact⟨2,rfl,by decide⟩
    ·exact⟨-1,rfl,by decide⟩
   refine⟨d,_,_,_,rfl,rfl,zP.of ed,hv,?_⟩
   generalize upd H d _=H1 at gd ed ⊢
   refine⟨_,rfl,_,rfl,tl,_,_,_,rfl,rfl,zP.of (gd _ _ hl),yC em,?_⟩
   refine⟨_,rfl,c,3,60,rfl,by decide,by decide,by decide,fun r3 _ _=>?_⟩
   refine⟨_,rfl,_,rfl,tl,_,_,_,rfl,rfl,zP.of (gd _ _ hl),yC em,p,_,rfl,.inl (zP.of (gd _ _ z3)),_,_,rfl,rfl,by rw[lmn];omega,?_⟩
   have a1:=ztR r3 (show(0:Int)<(ns.map V.int).length by rw[lmn];omega)
   have a2:=ztV r3 (show((ns.map V.int).length:Int)≠0 by rw[lmn];omega)
   obtain⟨j,ej⟩:∃j:Nat,r3%((ns.map V.int).length:Int)=(j:Int):=⟨_,(Int.toNat_of_nonneg a2).symm⟩
   rw[ej] at a1
   refine⟨p,_,_,j,rfl,rfl,gd _ _ z3,by rw[ej];exact Qz (by omega),?_⟩
   refine⟨_,rfl,sk (by omega) (yr ?_)⟩
   refine⟨_,rfl,sk (by omega) (yr ?_)⟩
   refine⟨_,rfl,sk (by omega) (yr ?_)⟩
   refine⟨_,rfl,sk (by omega) ?_⟩
   refine⟨_,rfl,sk (by omega) (yr ?_)⟩
   have y:=put (ns':=ns.set j v) gd hp hns (by rw[List.length_set];omega) (fun i hi=>by
    rcases List.mem_or_eq_of_mem_set hi with h | h
    ·exact sm2 i h
    ·rw[h];exact sv)
   rw[List.map_set] at y
   exact y
  ·skip
   refine⟨_,rfl,sk (by omega) (yr ?_)⟩
   refine⟨_,rfl,sk (by omega) (yr ?_)⟩
   refine⟨_,rfl,sk (by omega) (yr ?_)⟩
   refine⟨_,rfl,sk (by omega) ?_⟩
   refine⟨_,rfl,sk (by omega) (yr ?_)⟩
   exact stay
 ·skip
  refine⟨_,rfl,sk (by omega) (yr ?_)⟩
  refine⟨_,rfl,tk e ?_⟩
  refine⟨_,rfl,tl,_,rfl,.inl (zP.of hl),_,_,rfl,rfl,_,rfl,yc (fun cc=>?_) (fun cc=>?_)⟩
  ·have lp:0<js.length:=by
    have:=of_decide_eq_true cc
    rw[lm] at this
    omega
   have hlt:=zfs (by omega)
   obtain⟨p,hp⟩:∃p,js[at']?=some p:=⟨_,ztd hlt⟩
   obtain⟨ns,hns,z1,z2,z3⟩:=tO pp hp
   have em:(js.map V.ref)[at']?=some (.ref p):=by rw[zte,hp];rfl
   have l63:js.length<2^63:=by omega
   obtain⟨zlk,sm2⟩:=sm ns (zth hns)
   have lmn:(ns.map V.int).length=ns.length:=ztc _
   refine⟨_,rfl,_,rfl,tl,_,_,_,rfl,rfl,zP.of hl,yC em,.inl ⟨rfl,_,zP.of z3⟩,p,_,_,rfl,rfl,z3,by rw[lmn];exact zO (by omega),?_⟩
   refine⟨_,rfl,sk (by omega) (yr ?_)⟩
   refine⟨_,rfl,sk (by omega) (yr ?_)⟩
   refine⟨_,rfl,sk (by omega) ?_⟩
   refine⟨_,rfl,sk (by omega) (yr ?_)⟩
   have y:=put (ns':=ns++[0]) (Same.refl _) hp hns (by rw[ztk];exact Nat.succ_le_succ zlk) (fun i hi=>by rcases List.mem_append.mp hi with h | h;exact sm2 i h;rw[List.mem_singleton.mp h];decide)
   rw[ztq] at y
   exact y
  ·skip
   refine⟨_,rfl,sk (by omega) (yr ?_)⟩
   refine⟨_,rfl,sk (by omega) (yr ?_)⟩
   refine⟨_,rfl,sk (by omega) ?_⟩
   refine⟨_,rfl,sk (by omega) (yr ?_)⟩
   exact stay
 ·skip
  refine⟨_,rfl,sk (by omega) (yr ?_)⟩
  refine⟨_,rfl,sk (by omega) (yr ?_)⟩
  refine⟨_,rfl,tk e ?_⟩
  refine⟨_,rfl,tl,_,rfl,.inl (zP.of hl),_,_,rfl,rfl,_,rfl,yc (fun cc=>?_) (fun cc=>?_)⟩
  ·have lp:0<js.length:=by
    have:=of_decide_eq_true cc
    rw[lm] at this
    omega
   have hlt:=zfs (by omega)
   obtain⟨p,hp⟩:∃p,js[at']?=some p:=⟨_,ztd hlt⟩
   obtain⟨ns,hns,z1,z2,z3⟩:=tO pp hp
   have em:(js.map V.ref)[at']?=some (.ref p):=by rw[zte,hp];rfl
   have l63:js.length<2^63:=by omega
   obtain⟨zlk,sm2⟩:=sm ns (zth hns)
   have lmn:(ns.map V.int).length=ns.length:=ztc _
   refine⟨_,rfl,_,rfl,tl,_,_,_,rfl,rfl,zP.of hl,yC em,p,_,rfl,.inl (zP.of z3),_,_,rfl,rfl,_,rfl,yc (fun c2=>?_) (fun c2=>?_)⟩
   rotate_left
   ·skip
    refine⟨_,rfl,sk (by omega) (yr ?_)⟩
    refine⟨_,rfl,sk (by omega) ?_⟩
    refine⟨_,rfl,sk (by omega) (yr ?_)⟩
    exact stay
   have ln:0<ns.length:=by
    have:=of_decide_eq_true c2
    rw[lmn] at this
    omega
   obtain⟨v,hv⟩:∃v,(ns.map V.int)[(ns.map V.int).length-1]?=some v:=⟨_,ztd (by omega)⟩
   refine⟨_,rfl,_,rfl,tl,_,_,_,rfl,rfl,zP.of hl,yC em,.inl ⟨rfl,_,zP.of z3⟩,p,_,v,rfl,rfl,z3,hv,?_⟩
   refine⟨_,rfl,sk (by omega) (yr ?_)⟩
   refine⟨_,rfl,sk (by omega) ?_⟩
   refine⟨_,rfl,sk (by omega) (yr ?_)⟩
   have y:=put (ns':=ns.dropLast) (Same.refl _) hp hns (by rw[List.length_dropLast];omega) (fun i hi=>sm2 i (List.dropLast_subset _ hi))
   rw[List.map_dropLast] at y
   exact y
  ·skip
   refine⟨_,rfl,sk (by omega) (yr ?_)⟩
   refine⟨_,rfl,sk (by omega) ?_⟩
   refine⟨_,rfl,sk (by omega) (yr ?_)⟩
   exact stay
 ·skip
  refine⟨_,rfl,sk (by omega) (yr ?_)⟩
  refine⟨_,rfl,sk (by omega) (yr ?_)⟩
  refine⟨_,rfl,sk (by omega) (yr ?_)⟩
  refine⟨_,rfl,tk e ?_⟩
  refine⟨_,rfl,tl,_,rfl,.inl (zP.of hl),_,_,rfl,rfl,_,rfl,yc (fun cc=>?_) (fun cc=>?_)⟩
  ·have lp:0<js.length:=by
    have:=of_decide_eq_true cc
    rw[lm] at this
    omega
   have hlt:=zfs (by omega)
   obtain⟨p,hp⟩:∃p,js[at']?=some p:=⟨_,ztd hlt⟩
   obtain⟨ns,hns,z1,z2,z3⟩:=tO pp hp
   have em:(js.map V.ref)[at']?=some (.ref p):=by rw[zte,hp];rfl
   have l63:js.length<2^63:=by omega
   obtain⟨zlk,sm2⟩:=sm ns (zth hns)
   have lmn:(ns.map V.int).length=ns.length:=ztc _
   refine⟨_,rfl,.inl ⟨rfl,_,zP.of hl⟩,_,rfl,tl,_,_,_,_,rfl,rfl,hl,by omega,by omega,(zac (Qz (by rw[lm];exact hlt))).1,em,?_⟩
   refine⟨_,rfl,sk (by omega) ?_⟩
   refine⟨_,rfl,sk (by omega) (yr ?_)⟩
   refine q (js.eraseIdx at') (rows.eraseIdx at') _ (g0.over fl _) (zjT _ (Same.refl _) _) (by rw[zf,zdu]) (zeT at' (ppL _ (Same.refl _) _)) (nd.sublist (List.eraseIdx_sublist _ _)) (by have:=List.length_eraseIdx_le rows at';omega) (fun r h=>sm1 r (List.mem_of_mem_eraseIdx h))
  ·skip
   refine⟨_,rfl,sk (by omega) ?_⟩
   refine⟨_,rfl,sk (by omega) (yr ?_)⟩
   exact stay
 ·skip
  refine⟨_,rfl,sk (by omega) (yr ?_)⟩
  refine⟨_,rfl,sk (by omega) (yr ?_)⟩
  refine⟨_,rfl,sk (by omega) (yr ?_)⟩
  refine⟨_,rfl,sk (by omega) (yr ?_)⟩
  refine⟨_,rfl,tk e ?_⟩
  refine⟨_,rfl,.inl ⟨rfl,_,zP.of hl⟩,_,rfl,_,rfl,(n:Int),rfl,by omega,by omega,?_⟩
  rw[ztP]
  refine zhl (n:=n) (fun i ys H'=>Same H H'/\∃zs:List Int,ys=zs.map V.int/\zs.length=i/\∀z∈zs,-2<=z/\z<=2) ⟨Same.refl _,[],rfl,rfl,fun z h=>by cases h⟩ (ztv (zO (by omega))) ?_ ?_ ?_
  ·rintro i ys H' _ ⟨_,zs,rfl,e,_⟩
   rw[ztc,e];exact zts _
  ·rintro i ys H' Q0 hi ⟨g,zs,rfl,e,sz⟩ hn
   refine⟨_,rfl,_,rfl,_,_,rfl,rfl,c,10+i,2,?_,by omega,by decide,by decide,fun r r0 r1=>?_⟩
   ·show [V.int c,V.int (10+((0:Int)+(i:Int))),V.int 2]=_
    rw[Int.zero_add]
    rfl
   refine hn _ _ ⟨g,zs++[r],by rw[ztq];rfl,by rw[ztk,e];rfl,fun z hz=>?_⟩
   rcases List.mem_append.mp hz with h | h
   ·exact sz z h
   ·rw[List.mem_singleton.mp h];omega
  rintro ys H1 p ⟨g,zs,rfl,ez,sz⟩ hpn
  have gp:=Same.new hpn (.lst (zs.map V.int))
  have gg:=g.trans gp
  have npl:p≠tl:=fun z=>by rw[z,g _ _ hl] at hpn;cases hpn
  have npj:p∉js:=fun z=>by
   obtain⟨i,hi,e⟩:=ztU z
   obtain⟨_,_,_,_,z3⟩:=tO pp (show js[i]?=some p by rw[ztd hi,e])
   rw[g _ _ z3] at hpn
   cases hpn
  refine⟨tl,_,_,_,rfl,rfl,gg _ _ hl,by omega,by rw[lm];omega,by rw[lm];exact slz,?_⟩
  rw[ztP,zds (f:=V.ref) (y:=p)]
  refine⟨_,rfl,sk (by omega) (yr ?_)⟩
  have np0:H0 p=none:=(g0.trans g).free hpn
  have pq:=ppL _ gg (.lst ((js.take at'++p::js.drop at').map V.ref))
  refine q (js.take at'++p::js.drop at') (rows.take at'++zs::rows.drop at') _ ((g0.trans gg).over fl _) (zjT _ gg _) zf (Xn (zhs at' pq) (.cons ⟨np0,npl,by rw[zG npl];exact zf⟩ (zht at' pq))) ?_ (by rw[zdr];omega) (fun r h=>?_)
  ·refine List.perm_middle.nodup_iff.mpr (List.nodup_cons.mpr ⟨?_,?_⟩)
   ·rw[List.take_append_drop];exact npj
   ·rw[List.take_append_drop];exact nd
  ·rcases zdq h with h | h
   ·rw[h];exact⟨by omega,sz⟩
   ·exact sm1 r h
 ·skip
  refine⟨_,rfl,sk (by omega) (yr ?_)⟩
  refine⟨_,rfl,sk (by omega) (yr ?_)⟩
  refine⟨_,rfl,sk (by omega) (yr ?_)⟩
  refine⟨_,rfl,sk (by omega) (yr ?_)⟩
  refine⟨_,rfl,sk (by omega) ?_⟩
  refine⟨_,rfl,tk e ?_⟩
  refine⟨_,rfl,tl,_,rfl,.inl (zP.of hl),_,_,rfl,rfl,_,rfl,yc (fun cc=>?_) (fun cc=>?_)⟩
  ·refine⟨_,rfl,.inl ⟨rfl,_,zP.of hl⟩,tl,_,rfl,rfl,hl,?_⟩
   exact q js.reverse rows.reverse _ (g0.over fl _) (zjT _ (Same.refl _) _) (by rw[zf,List.map_reverse]) (zjp (ppL _ (Same.refl _) _)) ((List.reverse_perm js).nodup_iff.mpr nd) (by rw[List.length_reverse];omega) (fun r h=>sm1 r (List.mem_reverse.mp h))
  ·exact stay
theorem zb2 (T:Txt P w K mg a)(zR:zF P w K mg base zY k a.xu a.xG yW Vu):zF P w K mg base zY (k+1) a.WQ a.WR Z7 KN:=by
 refine T.R7.F.ok wH (fun vs H Q E h=>?_) (fun cdv A outer s H vs Q E hr h=>?_)
 ·obtain⟨cl,rl,c,n,ks,ps,rows,H0,rfl,_⟩:=h
  rfl
 obtain⟨tl,rl,c,n,js,ps,rows,H0,rfl,g0,fl,hl,lk,n1,n8,l0,l29,hrl,ncr,pp,nd,er,lr,q⟩:=h
 refine⟨_,(zj (zH 3 wH.nd (zK wQ (zp zR hr T.zV (za (pv 2) (za zm (za zm zc)))) (zB zy rfl T.yu zX (za (pv 0) zc))))
   (zq (yq (zJ yH (zp zR hr T.zV (za (pv 2) (za zm (za zm zc)))) zm (zM _)) (zq (xX PassesOwn.never rfl (wZ rfl T.uE (za (zB ZM rfl T.yu zX (za (z8 yd (pv 0) (pv 3) (fun _ _=>rfl)) zc)) zc)) (yw (i:=4) wH.nd rfl (Or.inl rfl)) (zq (yq (zJ yH (z8 PN (z8 yd (pv 0) (pv 3) (fun _ _=>rfl)) (pv 4) (fun _ _=>rfl)) yg (zM _)) (zq (zax (zp zR hr T.zV (za (pv 2) (za (zK xH zm (pv 4)) (za zm zc)))) (zcS (z8 yd (pv 1) (pv 3) (fun _ _=>rfl)) (pv 4) set_list))) zT)))) (zj (zH 5 wH.nd (z8 yd (pv 0) (pv 3) (fun _ _=>rfl)))
   (zj (zH 6 wH.nd (zK wQ (zp zR hr T.zV (za (pv 2) (za zm (za zm zc)))) (zB ZM rfl T.yu zX (za (pv 5) zc))))
   (zj (zH 7 wH.nd (wF Kz rfl T.zhx zc6 (za (z8 yd (z8 yd (pv 1) (pv 3) (fun _ _=>rfl)) (pv 6) (fun _ _=>rfl)) zc)))
   (zq (zax (zK wu (zK wu (wK Rj (pv 5) uV (vL (pv 6))) (pv 7)) (wK Rj (pv 5) (vL (zK xH (pv 6) zm)) uV)) (zcS (pv 0) (pv 3) set_list))))))))),?_⟩
 have lm:(js.map cbV).length=js.length:=ztc _
 have ljr:=yU pp
 refine⟨_,rfl,c,6,60,rfl,by decide,by decide,by decide,fun r r0 r60=>?_⟩
 refine⟨_,rfl,tl,_,rfl,.inl (zP.of hl),_,_,rfl,rfl,by rw[lm];omega,?_⟩
 have a1:=ztR r (show(0:Int)<(js.map cbV).length by rw[lm];omega)
 have a2:=ztV r (show((js.map cbV).length:Int)≠0 by rw[lm];omega)
 obtain⟨at',ej⟩:∃j:Nat,r%((js.map cbV).length:Int)=(j:Int):=⟨_,(Int.toNat_of_nonneg a2).symm⟩
 show uF 3 (V.int (r%((js.map cbV).length:Int))) _ _ _
 rw[ej] at a1 ⊢
 rw[lm] at a1
 have hlt:at'<js.length:=by omega
 obtain⟨z0,hz⟩:∃z,js[at']?=some z:=⟨_,ztd hlt⟩
 have mz:=zth hz
 have lz0:=lk z0 mz
 have em:(js.map cbV)[at']?=some (cbV z0):=by rw[zte,hz];rfl
 obtain⟨p,hp⟩:∃p,ps[at']?=some p:=⟨_,ztd (by omega)⟩
 obtain⟨rw0,hr0,z1,z2,z3,z4⟩:=tO pp hp
 have lr0:=lr rw0 (zth hr0)
 have ep:(ps.map V.ref)[at']?=some (.ref p):=by rw[zte,hp];rfl
 have lz:(cbS z0).length<=sizeLine:=by rw[yt];exact ztv (zO (by omega))
 refine⟨_,rfl,c,7,2,rfl,by decide,by decide,by decide,fun kd k0 k2=>?_⟩
 refine⟨rfl,_,rfl,yc (fun cc=>?_) (fun cc=>?_)⟩
 ·refine⟨_,rfl,_,rfl,tl,_,_,_,rfl,rfl,zP.of hl,yC em,cbS z0,rfl,lz,(z0.length:Int),by rw[yt],by omega,by omega,?_⟩
  rw[ztP]
  refine uU (lo:=0) (n:=z0.length) (fun i σ H'=>∃(r':List Bool) (f4:Option V),(∀x,x≠p->H' x=H x)/\H' p=some (.lst (zZ r'))/\r'.length=n/\σ=[some (.ref tl),some (.ref rl),some (.int c),some (.int (at':Nat)),f4,none,none,none]) ⟨rw0,_,fun _ _=>rfl,z4,lr0,rfl⟩ ?_ ?_
  ·rintro i σ H2 hi ⟨r',f4,ke,hp2,lr',rfl⟩
   have ei:(0:Int)+(i:Int)=(i:Int):=by omega
   rw[ei]
   have hs:z0[i]?=some z0[i]:=ztd hi
   generalize z0[i]=s0 at hs
   have hl2:H2 tl=some _:=(ke _ (Ne.symm z2)).trans hl
   have zp9:H2 rl=some _:=(ke _ (Ne.symm z3)).trans hrl
   refine⟨_,rfl,_,rfl,tl,_,_,_,rfl,rfl,zP.of hl2,yC em,_,rfl,cbS z0,_,_,rfl,rfl,lz,yC (zak hs),rfl,_,rfl,yc (fun c2=>?_) (fun c2=>?_)⟩
   ·refine⟨_,rfl,_,rfl,_,_,rfl,rfl,c,20+i,2,?_,by omega,by decide,by decide,fun v v0 v1=>?_⟩
    ·show [V.int c,V.int (20+(i:Int)),V.int 2]=_
     rfl
    obtain⟨b,rfl⟩:∃b:Bool,v=((b.toNat:Nat):Int):=by
     have:v=0\/v=1:=by omega
     rcases this with rfl | rfl
     ·exact⟨false,rfl⟩
     ·exact⟨true,rfl⟩
    refine⟨_,rfl,_,rfl,rl,_,_,_,rfl,rfl,zP.of zp9,yC ep,_,rfl,p,_,_,i,rfl,rfl,hp2,Qz (by unfold zZ;rw[ztc];omega),?_⟩
    refine⟨r'.set i b,_,fun x ne=>by rw[zG ne];exact ke x ne,?_,by rw[List.length_set];exact lr',rfl⟩
    rw[zf]
    unfold zZ
    rw[List.map_set]
   ·exact⟨r',_,ke,hp2,lr',rfl⟩
  ·rintro σ H2 ⟨r',f4,ke,hp2,lr',rfl⟩
   refine q js (rows.set at' r') H2 (fun x o e=>by rw[ke x (fun z=>by rw[z,z1] at e;cases e)];exact g0 _ _ e) ((ke _ (Ne.symm z2)).trans hl) lk rfl ((ke _ (Ne.symm z3)).trans hrl) (zgl pp nd hp (fun x y ne r=>⟨r.1,r.2.1,r.2.2.1,by rw[ke x ne];exact r.2.2.2⟩) ⟨z1,z2,z3,hp2⟩) (fun r h=>?_)
   rcases List.mem_or_eq_of_mem_set h with h | h
   ·exact lr r h
   ·rw[h];exact lr'
 ·refine⟨_,rfl,_,rfl,tl,_,_,_,rfl,rfl,zP.of hl,yC em,?_⟩
  refine⟨_,rfl,c,8,60,rfl,by decide,by decide,by decide,fun r4 _ _=>?_⟩
  refine⟨_,rfl,cbS z0,rfl,lz,_,_,rfl,rfl,by rw[yt];omega,?_⟩
  have b1:=ztR r4 (show(0:Int)<(cbS z0).length by rw[yt];omega)
  have b2:=ztV r4 (show((cbS z0).length:Int)≠0 by rw[yt];omega)
  obtain⟨pl,epl⟩:∃pl:Nat,r4%((cbS z0).length:Int)=(pl:Int):=⟨_,(Int.toNat_of_nonneg b2).symm⟩
  show uF 6 (V.int (r4%((cbS z0).length:Int))) _ _ _
  rw[epl] at b1 ⊢
  rw[yt] at b1
  have hpl:pl<z0.length:=by omega
  obtain⟨b,hb⟩:∃b,rw0[pl]?=some b:=⟨_,ztd (by omega)⟩
  refine⟨_,rfl,_,rfl,rl,_,_,_,rfl,rfl,zP.of hrl,yC ep,_,rfl,p,_,_,_,rfl,rfl,zP.of z4,yC (by unfold zZ;rw[zte,hb];rfl),b,rfl,?_⟩
  have eb:zbL b=cbS [some b]:=by cases b<;>decide +kernel
  refine⟨_,rfl,_,rfl,_,rfl,cbS z0,rfl,lz,?_⟩
  rw[zam (ztv hpl),eb]
  have l1:(cbS (z0.take pl)).length+(cbS [some b]).length<=sizeLine:=by
   rw[yt,yt,ztA]
   exact ztv (zO (by show min pl z0.length+1<=1000;omega))
  refine⟨_,rfl,_,_,rfl,rfl,l1,?_⟩
  rw[XF]
  refine⟨_,rfl,_,rfl,_,_,rfl,rfl,_,rfl,cbS z0,rfl,lz,?_⟩
  have er':(pl:Int)+1=((pl+1:Nat):Int):=rfl
  rw[er',zan (by omega:pl+1<=z0.length)]
  refine⟨_,_,rfl,rfl,?_,?_⟩
  ·rw[yt,yt,ztk,ztA,List.length_drop]
   exact ztv (zO (by show min pl z0.length+1+(z0.length-(pl+1))<=1000;omega))
  rw[XF]
  have es:z0.take pl++[some b]++z0.drop (pl+1)=z0.set pl (some b):=by
   rw[List.set_eq_take_append_cons_drop,if_pos hpl,List.append_assoc]
   rfl
  rw[es]
  refine⟨_,rfl,_,rfl,tl,_,_,_,rfl,rfl,hl,Qz (by rw[lm];exact hlt),?_⟩
  refine q (js.set at' (z0.set pl (some b))) rows _ (g0.over fl _) (by rw[zf,List.map_set]) (fun j h=>?_) (by rw[List.length_set]) (by rw[zG (Ne.symm ncr)];exact hrl) (yO (fun x y z=>⟨z.1,z.2.1,z.2.2.1,by rw[zG z.2.1];exact z.2.2.2⟩) pp) lr
  rcases List.mem_or_eq_of_mem_set h with h | h
  ·exact lk j h
  ·rw[h,List.length_set];exact lz0
inductive zlM (C:Addr)(K:Frag)(sc:Addr)(ns:List Int)(σ:St)(H:Hp):Prop
 | mk (ol p bk yl:Addr) (os:List Str) (rs:List yN.Rm) (F:uZ) (k0:Nat) (s:Sn) (_:zP K H sc (ns.map V.int)) (_:Q8 os) (_:zdx H yl os.length (fun b=>s.val (xP os b))) (_:yV C H bk os rs F) (_:yN.Means rs k0 (fun r=>s.val (zmw os r))) (_:σ=[some (.ref sc),some (.ref ol),some (.int (os.length:Nat)),some (.ref p),some (.ref bk),some (.int (k0:Nat)),some (.ref yl),none,none,none,none,none,none]):zlM C K sc ns σ H
inductive zlN (C:Addr)(K:Frag)(sc:Addr)(ns:List Int)(σ:St)(H:Hp):Prop
 | mk (B:Hp) (ol p bk yl cl rl:Addr) (os:List Str) (rs:List yN.Rm) (F:uZ) (k0:Nat) (s:Sn) (ks:List Cb) (ps:List Addr) (rows:List (List Int)) (_:zP K B sc (ns.map V.int)) (_:Q8 os) (_:zdx B yl os.length (fun b=>s.val (xP os b))) (_:yV C B bk os rs F) (_:yN.Means rs k0 (fun r=>s.val (zmw os r))) (_:Xo B H cl rl os.length 0 ks ps rows) (_:σ=[some (.ref sc),some (.ref ol),some (.int (os.length:Nat)),some (.ref p),some (.ref bk),some (.int (k0:Nat)),some (.ref yl),none,none,none,some (.ref cl),some (.ref rl),none]):zlN C K sc ns σ H
theorem ok_law (T:Txt P w K mg a)
  (yI:zF P w K mg base zY (k+1) a.xR a.xT xg (zai K))
  (zR:zF P w K mg base zY (k+1) a.xu a.xG yW Vu)
  (zb3:zF P w K mg base zY (k+1) a.VH a.VJ YW zc9)
  (Jb:zF P w K mg base zY (k+1) a.YG a.YH u9 (Nb K))
  (zft:zF P w K mg base zY (k+1) a.RX a.RZ Vn (zaX K))
  (W8:zF P w K mg base zY (k+1) a.Yk a.Yl uO QG)
  (zb4:zF P w K mg base zY (k+1) a.VP a.VR Y0 za9)
  (Mf:zF P w K mg base zY (k+1) a.Zv a.Zw vN zdI)
  (Ly:zF P w K mg base zY (k+1) a.Ym a.Yn uy zdJ)
  (zby:zF P w K mg base zY (k+1) a.WQ a.WR Z7 KN)
  (zfu:zF P w K mg base zY k a.Vo a.RT Vk (Ng (yV a.zE) K a.zE))
  (zd6:zF P w K mg base zY (k+1) a.Tj a.Tn XM (zaY a.zE))
  (zlm:zF P w K mg base zY (k+1) a.zdT a.zdU zaq (zdF a.zE))
  (Ma:zF P w K mg base zY (k+1) a.Tp a.Tq Ws (QF a.zE K))
  (zb5:zF P w K mg base zY (k+1) a.VF a.VG YT (zdG a.zE)) :
  zF P w K mg base zY (k+2) a.a_law a.d_law p_law (zg6 K):=by
 refine T.f_law.F.ok sc_law (fun vs H Q E h=>?_) (fun cdv A outer s H vs Q E hr h=>?_)
 ·obtain⟨a,ns,rfl,_⟩:=h
  rfl
 obtain⟨sc,ns,rfl,hS,h63,q9⟩:=h
 have L:=uK a.zE
 refine zpp ?_
 refine znL (zlM a.zE K sc ns) (fun t z=>(zj (zH 1 sc_law.nd (zp zb3 hr T.Pz (za (zp yI hr T.yD (za (pv 0) (za zm zc))) (za (z8 yd (yM (za zm (za zm zc))) (wF Ke rfl T.zhw zc5 (za (xK yH (zK wQ (zp yI hr T.yD (za (pv 0) (za zm zc))) zm) zm (zM _)) zc)) (fun _ _=>rfl)) zc))))
   (zj (zH 2 sc_law.nd (zB zy rfl T.yu zX (za (pv 1) zc)))
   (zj (zH 3 sc_law.nd (zp Jb hr T.Uq (za (pv 0) (za zm (za (zK xH zm (zK wQ (zp yI hr T.yD (za (pv 0) (za zm zc))) zm)) (za (pv 1) zc))))))
   (zj (zH 4 sc_law.nd (zkc T.zlc zfu hr rfl T.zmH T.JD.b .nil zgT (za (pv 1) zc)))
   (zj (zH 5 sc_law.nd (tQ (pv 4) T.yQ T.Lp zd6 hr (za (pv 3) zc)))
   (zj (zH 6 sc_law.nd (zp zft hr T.JC (za (pv 3) (za (pv 1) zc))))
   z))))))) ?_ ?_
 ·rintro u hu σ H ⟨rfl,rfl⟩
  refine⟨_,rfl,sc,ns,0,rfl,hS,by show 2<=sizeLine;decide,fun l5 hl5=>?_⟩
  have g5:=Same.new hl5 (.lst [.int 5,.int 8])
  refine⟨_,rfl,sc,ns,40,rfl,g5.seq hS,_,_,rfl,rfl,(show(0:Int)<8 by decide),rfl,.inr ⟨_,rfl,l5,_,_,.int ((if (decide (V.int (vo ns 40%8)=V.int 1)) then 8 else 5:Nat):Int),rfl,rfl,zP.of zf,?_,vo ns 0,(if (decide (V.int (vo ns 40%8)=V.int 1)) then 8 else 5),rfl,?_,?_,fun ol H0 os g1' zmN ho o8'=>?_⟩⟩
  ·cases (decide (V.int (vo ns 40%8)=V.int 1))<;>rfl
  ·cases (decide (V.int (vo ns 40%8)=V.int 1))<;>decide
  ·cases (decide (V.int (vo ns 40%8)=V.int 1))<;>decide
  have g0:=g5.trans g1'
  clear g1' o8' g5
  have o8:=ho.le
  have hS0:=g0.seq hS
  have m0:0<=vo ns 1%7:=ztV _ (by decide)
  have m1:vo ns 1%7<7:=ztR _ (by decide)
  have em:(1:Int)+vo ns 1%7=(((1+vo ns 1%7).toNat:Nat):Int):=by omega
  refine⟨_,rfl,ol,_,rfl,.inl (zP.of zmN),?_⟩
  rw[ztc]
  refine⟨_,rfl,_,rfl,sc,ns,1,rfl,hS0,?_⟩
  refine⟨vo ns 1,7,rfl,rfl,(show(0:Int)<7 by decide),1,_,rfl,rfl,_,rfl,sc,ol,ns,2,(1+vo ns 1%7).toNat,os,?_,hS0,zP.of zmN,ho.pos,o8,by omega,by omega,by decide,fun p1 H1 s1 g1 is1 in1 d1=>?_⟩
  ·show [V.ref sc,V.int 2,V.int (1+vo ns 1%7),V.ref ol]=_
   rw[em];rfl
  have hS1:=g1.seq hS0
  have hol1:=g1 _ _ zmN
  refine⟨_,rfl,fun bk dx hbk hdx hne=>⟨bk,dx,ol,os,rfl,zf,Ne.symm hne,?_,ho,fun H3 F0 keep hB hF=>⟨rfl,?_⟩⟩⟩
  ·refine zP.of ?_
   rw[zG (zA hol1 hbk),zG (zA hol1 hdx)]
   exact hol1
  have L0:=zh1.made hbk hdx hne keep hB hF
  clear keep hF
  have is3:=is1.mono (xr.of L0.same)
  have d7:s1.depth<=7:=by omega
  have cnt:s1.count+2<=200:=by
   have h3:=Sn.zeD s1
   have h4:2^s1.depth<=2^7:=ztI (by decide) d7
   have h5:2^7=128:=rfl
   omega
  obtain⟨dx0,fs,zd1,hm⟩:=L.ins L0.bk
  refine⟨_,rfl,bk,dx0,fs,rfl,zd1,hm _ (by decide +kernel),_,rfl,bk,p1,os,_,F0,s1,rfl,L0.bk,by decide,is3,in1,by omega,by omega,fun k0 rs1 H4 aw tu hB4 gr mn hh=>?_⟩
  have L4:=L0.rise aw hB4 hh
  refine⟨_,rfl,_,rfl,p1,ol,s1,os,rfl,is3.mono tu,zP.of (L4.same _ _ hol1),in1,o8,by omega,fun yl H5 ps g5 hyl h5 h6=>?_⟩
  exact hu _ _ ⟨ol,p1,bk,yl,os,rs1,F0,k0,s1,(L4.same.trans g5).seq hS1,ho,⟨ps,h5,yO (fun _ _ z=>z.2) h6⟩,L.same hB4 g5,mn,rfl⟩
 refine znL (zlN a.zE K sc ns) (fun t z=>(zj (zax (zp zlm hr T.zhv (za (pv 4) (za (pv 5) zc))) (zcR rfl (Xc (yw (i:=10) sc_law.nd rfl (Or.inl rfl)) (Xc (yw (i:=11) sc_law.nd rfl (Or.inl rfl)) zaa))))
   (zj (yq (PW.pt (ZG (zJ yH (zK wQ (zp yI hr T.yD (za (pv 0) (za zm zc))) zm) zm (zM _)) (Ze (zJ Yq (zB zy rfl T.yu zX (za (pv 10) zc)) zm (zM _))))) (zq (yh (zp zby hr T.R7 (za (pv 10) (za (pv 11) (za (zp yI hr T.yD (za (pv 0) (za zm zc))) zc)))))) zT)
   z))) ?_ ?_
 ·rintro u hu σ H ⟨ol,p,bk,yl,os,rs,F,k0,s,hS0,ho,hY,hB,mn,rfl⟩
  have o8:=ho.le
  refine⟨_,rfl,_,rfl,bk,os,rs,F,k0,rfl,hB,mn.1,fun t cl rl ks ps rows H1 g1 ft fcl frl ncr ht hcl hrl pp nd cv lk=>?_⟩
  refine⟨t,_,rfl,wY.of ht,rfl,_,_,rfl,_,_,rfl,rfl,?_⟩
  have lks:∀c∈ks,c.length=os.length:=fun c hc=>(cv.mem c hc).1
  have S0:=Xo.start g1 fcl frl ncr hcl lks lk hrl pp nd cv.len o8 (zhu cv)
  refine⟨_,rfl,sc,ns,13,rfl,g1.seq hS0,_,_,rfl,rfl,(show(0:Int)<3 by decide),rfl,_,rfl,yc (fun c1=>?_) (fun c1=>?_)⟩
  ·refine⟨_,rfl,cl,_,rfl,.inl (zP.of hcl),_,_,rfl,rfl,_,rfl,yc (fun c2=>?_) (fun c2=>?_)⟩
   ·have lp:0<ks.length:=by
     have:=of_decide_eq_true c2
     rw[ztc] at this
     omega
    refine⟨_,rfl,_,rfl,_,rfl,sc,ns,14,rfl,g1.seq hS0,cl,rl,vo ns 14,os.length,ks,ps,rows,H,rfl,g1,fcl,hcl,lks,ho.pos,o8,lp,by omega,hrl,ncr,pp,nd,cv.len,zhu cv,fun ks' rows' H' g' h1 h2 h3 h4 h5 h6=>?_⟩
    exact hu _ _ ⟨H,ol,p,bk,yl,cl,rl,os,rs,F,k0,s,ks',ps,rows'.map zdH,hS0,ho,hY,hB,mn,Xo.start g' fcl frl ncr h1 h2 (by omega) h4 h5 nd (by rw[<-yU h5,yU pp,cv.len,h3]) o8 h6,rfl⟩
   ·exact hu _ _ ⟨H,ol,p,bk,yl,cl,rl,os,rs,F,k0,s,ks,ps,rows.map zdH,hS0,ho,hY,hB,mn,S0,rfl⟩
  ·exact hu _ _ ⟨H,ol,p,bk,yl,cl,rl,os,rs,F,k0,s,ks,ps,rows.map zdH,hS0,ho,hY,hB,mn,S0,rfl⟩
 refine⟨_,(zj (xX PassesOwn.never rfl (wZ rfl T.uE (za (zK wQ (zp yI hr T.yD (za (pv 0) (za zm zc))) zm) zc)) (yw (i:=7) sc_law.nd rfl (Or.inl rfl)) (zj (zH 12 sc_law.nd (zp yI hr T.yD (za (pv 0) (za (zK xH zm (pv 7)) zc))))
   (zq (yq (zJ yH (zp zR hr T.zV (za (pv 12) (za zm (za zm zc)))) zm (zM _)) (zq (yh (zp Mf hr T.W2 (za (pv 10) (za (pv 12) (za (pv 2) zc)))))) (zq (yh (zp Ly hr T.Vr (za (pv 11) (za (pv 12) (za (pv 2) zc))))))))))
   (zj (zH 8 sc_law.nd (zB (M6 hr.gd (hu9 hr)) rfl T.zjO zhk (za (uG (za (pv 10) (za (pv 11) zc))) zc)))
   (zj (zH 9 sc_law.nd (yM (za (zp Ma hr T.NT (za (pv 4) (za (pv 5) (za (pv 10) zc)))) (za (zp zb5 hr T.Py (za (pv 4) (za (pv 5) (za (pv 10) (za (pv 11) zc))))) zc))))
   (zj (yq (PW.pt (Q7 (ZJ (xU (zB (vW rfl) rfl T.T8 Xm (za (vg (wV:=zu S_law) (js:=[]) rfl (by show uX _ _ "one" [];exact Ku (by decide +kernel)) rfl (yF (pv 9)) (by show ∀j∈([]:List Nat),j<13;decide) (fun cl C s₂ H₂ fp=>(zB (Mv (K:=K) rfl) rfl T.TF Vs (za (pv 0) (za (zcQ (v:=.ty "bool") rfl T.zmI zkt rfl) zc))))) zc)) (fun _=>rfl))) (Us (zJ TV (zB (M6 hr.gd (hu9 hr)) rfl T.zjO zhk (za (uG (za (pv 10) (za (pv 11) zc))) zc)) (pv 8) (zM _))))) (zq (zL ZF)) zT)
   (zq (zL (xK (zmt rfl (hu8 hr)) (pv 9) (yM (za (zp W8 hr T.W0 (za (pv 10) (za (pv 6) (za (pv 2) zc)))) (za (zp zb4 hr T.PJ (za (pv 10) (za (pv 11) (za (pv 6) (za (pv 2) zc))))) zc))) (zM _)))))))),?_⟩
 rintro σ H ⟨B,ol,p,bk,yl,cl,rl,os,rs,F,k0,s,ks,ps,rows,hS0,ho,hY,hB,mn,S0,rfl⟩
 have o8:=ho.le
 have tb:tB rs k0=fun b=>s.val (xP os b):=funext fun b=>mn.2 _
 have m0:0<=vo ns 10%3:=ztV _ (by decide)
 have m1:vo ns 10%3<3:=ztR _ (by decide)
 obtain⟨tn,etn⟩:∃tn:Nat,vo ns 10%3=(tn:Int):=⟨_,(Int.toNat_of_nonneg m0).symm⟩
 refine⟨_,rfl,sc,ns,10,rfl,S0.same.seq hS0,_,_,rfl,rfl,(show(0:Int)<3 by decide),tn,by rw[<-etn],by omega,by omega,?_⟩
 rw[ztP]
 refine uU (lo:=0) (n:=tn) (fun i σ H'=>∃(ks:List Cb) (ps:List Addr) (rows:List (List Int)) (f7 f12:Option V),Xo B H' cl rl os.length i ks ps rows/\σ=[some (.ref sc),some (.ref ol),some (.int (os.length:Nat)),some (.ref p),some (.ref bk),some (.int (k0:Nat)),some (.ref yl),f7,none,none,some (.ref cl),some (.ref rl),f12]) ⟨ks,ps,rows,_,_,S0,rfl⟩ ?_ ?_
 ·clear S0 ks ps rows
  rintro i σ H2 hi ⟨ks,ps,rows,f7,f12,S,rfl⟩
  have ei:(0:Int)+(i:Int)=(i:Int):=by omega
  rw[ei]
  have hk:=S.kl
  have hrl':=S.rlen
  refine⟨_,rfl,_,rfl,_,_,rfl,rfl,sc,ns,11+i,rfl,S.same.seq hS0,?_⟩
  refine⟨_,rfl,vo ns (11+i),0,2,rfl,by decide,by decide,by decide,fun kd _ _=>?_⟩
  refine⟨rfl,_,rfl,yc (fun c1=>?_) (fun c1=>?_)⟩
  ·refine⟨_,rfl,_,rfl,_,rfl,cl,vo ns (11+i),os.length,ks,rfl,S.hcl,S.lk,ho.pos,o8,by omega,fun ks' H' keep h l1 l2=>?_⟩
   exact⟨ks',ps,rows,_,_,S.znY keep h l1 l2,rfl⟩
  ·refine⟨_,rfl,_,rfl,_,rfl,rl,vo ns (11+i),os.length,ps,rows,za4 (zh8 rl ps) H2,8+i,rfl,by omega,by omega,fun x o e=>?_,zeU (.inl rfl),S.hrl,S.pre,S.nd,o8,by omega,S.sm,fun ps' rows' H' g _ h pp nd l sm=>?_⟩
   ·unfold za4 at e
    split at e
    ·cases e
    ·exact e
   ·exact⟨ks,ps',rows',_,_,S.znZ g h pp nd l sm,rfl⟩
 rintro σ H2 ⟨ks,ps,rows,f7,f12,S,rfl⟩
 have hk:=S.kl
 have hrl':=S.rlen
 have pp2:Paired (fun p (ns:List Int)=>H2 p=some (.lst (ns.map V.int))) ps rows:=yO (fun _ _ z=>z.2.2.2) S.pp
 have zoj:∀r∈rows,r.length<=20/\∀i∈r,Sm i:=fun r hr=>⟨by have:=(S.sm r hr).1;omega,fun i hi=>(S.sm r hr).2 i hi⟩
 have lk8:∀c∈ks,c.length<=8:=fun c hc=>by rw[S.lk c hc];exact o8
 refine⟨_,rfl,_,rfl,by show 2<=sizeLine;decide,fun t1 ht1=>?_⟩
 have g1:=Same.new ht1 (.tup [.ref cl,.ref rl])
 refine⟨t1,cl,rl,ks,ps,rows,rfl,zf,g1 _ _ S.hcl,g1 _ _ S.hrl,yO (fun _ _ z=>g1 _ _ z) pp2,by omega,lk8,by omega,zoj,?_⟩
 generalize upd H2 t1 _=H3 at g1 ⊢
 have S3:=S.new g1
 have B3:=L.same hB S3.same
 refine⟨_,rfl,_,rfl,_,rfl,bk,cl,os,rs,F,k0,ks,rfl,B3,mn.1,zP.of S3.hcl,S3.lk,fun H4 g4=>?_⟩
 have S4:=S3.new g4
 refine⟨_,rfl,_,rfl,_,rfl,_,rfl,bk,cl,rl,os,rs,F,k0,ks,rows,rfl,L.same hB S4.same,mn.1,S4.hcl,S4.lk,by omega,S4.zlH,by omega,fun r hr=>by have:=(S.sm r hr).1;omega,fun H5 g5=>?_⟩
 have S5:=S4.new g5
 refine⟨by show 2<=sizeLine;decide,fun fl hfl=>?_⟩
 have g6:=Same.new hfl (.lst [.bl (M5 os.length (tB rs k0) ks),.bl (Rq os.length (tB rs k0) ks rows)])
 have e6:upd H5 fl (.lst [.bl (M5 os.length (tB rs k0) ks),.bl (Rq os.length (tB rs k0) ks rows)]) fl=some _:=zf
 generalize upd H5 fl _=H6 at g6 e6 ⊢
 have S6:=S5.new g6
 refine⟨_,rfl,fl,rfl,⟨_,zP.of e6⟩,?_⟩
 refine zkR (fun _=>.bl true) (zP.of e6) (by show 2<=sizeLine;decide) (fun j y H' Q0 hy g' hQ=>?_) (fun H7 l7 g7 hl7=>?_)
 ·obtain⟨b,rfl⟩:∃b,y=.bl b:=by
   match j,hy with
   | 0,hy=>exact⟨_,(ztH hy).symm⟩
   | 1,hy=>exact⟨_,(ztH hy).symm⟩
  exact⟨_,rfl,_,_,_,true,rfl,.bl b,rfl,hQ _ (Same.refl _)⟩
 have g8:=g7.trans (Same.new hl7 (.lst (List.map (fun _=>V.bl true) [V.bl (M5 os.length (tB rs k0) ks),V.bl (Rq os.length (tB rs k0) ks rows)])))
 refine⟨l7,[true,true],rfl,zP.of zf,true,rfl,yr ?_⟩
 generalize upd H7 l7 _=H8 at g8 ⊢
 have S8:=S6.new g8
 have e8:=g8 _ _ e6
 refine⟨_,rfl,_,rfl,by show 2<=sizeLine;decide,fun t2 ht2=>?_⟩
 have g9:=Same.new ht2 (.tup [.ref cl,.ref rl])
 have pp8:Paired (fun p (ns:List Int)=>H8 p=some (.lst (ns.map V.int))) ps rows:=yO (fun _ _ z=>z.2.2.2) S8.pp
 refine⟨t2,cl,rl,ks,ps,rows,rfl,zf,g9 _ _ S8.hcl,g9 _ _ S8.hrl,yO (fun _ _ z=>g9 _ _ z) pp8,by omega,lk8,by omega,zoj,?_⟩
 generalize upd H8 t2 _=H9 at g9 ⊢
 have S9:=S8.new g9
 have e9:=g9 _ _ e8
 refine⟨_,rfl,rfl,_,rfl,ifB (by rw[decide_eq_true rfl];rfl) ?_⟩
 refine⟨_,rfl,_,rfl,_,rfl,_,rfl,cl,yl,os.length,_,ks,rfl,S9.hcl,S9.lk,o8,by omega,hY.mono S9.same,fun Ha ga=>?_⟩
 have Sa:=S9.new ga
 refine⟨_,rfl,_,rfl,_,rfl,_,rfl,cl,rl,yl,os.length,_,ks,rows,rfl,Sa.hcl,Sa.lk,o8,by omega,hY.mono Sa.same,Sa.zlH,by omega,fun r hr=>by have:=(S.sm r hr).1;omega,fun Hb gb=>?_⟩
 refine⟨by show 2<=sizeLine;decide,fun fl2 zqb=>?_⟩
 rw[tb] at e9
 have e10:=(Same.new zqb (.lst [.bl (M5 os.length (fun b=>s.val (xP os b)) ks),.bl (Rq os.length (fun b=>s.val (xP os b)) ks rows)])) _ _ ((ga.trans gb) _ _ e9)
 exact⟨true,fun z=>absurd z.1 ztg,zjl (n:=7) (zP.of e10) (zP.of zf) (fun x hx=>by simp only[List.mem_cons,ztD,or_false] at hx;rcases hx with rfl | rfl<;>rfl),q9 _⟩
theorem zln (T:Txt P w K mg a)(base:Heap):zF P w K mg base zY 60 a.a_law a.d_law p_law (zg6 K):=by
 have cell:zF P w K mg base zY 1 a.xR a.xT xg (Mu K):=zgs (k:=0) T
 have draw:zF P w K mg base zY 1 a.xu a.xG yW Vu:=zli (k:=0) T
 have order:=zjP (k:=1) T draw
 have sentence:=zff (k:=1) T cell draw
 have zat:zF P w K mg base zY 2 a.vO a.vP wR uY:=zfe (k:=1) T
 have Lz:zF P w K mg base zY 1 a.vJ a.vK wL uH:=zdV (k:=0) T
 have flipped:=zgr (k:=1) T Lz
 have zjU:zF P w K mg base zY 1 a.Uj a.Uk X4 V5:=zgu (k:=0) T
 have zlo:=zfg (k:=1) T zjU
 have lettersOf:zF P w K mg base zY 1 a.Z8 a.Z9 u6 Xd:=zbT (k:=0) T
 have partsOf:zF P w K mg base zY 1 a.Zq a.Zr uL Yv:=zfh (k:=0) T
 have zbz:=J0 (k:=1) T partsOf
 have shaped:=zdW (k:=1) T zjU lettersOf partsOf
 have zok:=zbp (k:=2) T shaped zbz
 have zii:=K5 (k:=2) T zlo
 have zlp:=Q6 (k:=3) T zok
 have zjV:=zdX (k:=2) T zbz
 have zij:=zbV (k:=3) T zjV (lettersOf.mono (by decide))
 have zjW:zF P w K mg base zY 1 a.tE a.tG vq (UJ K):=Lr (k:=0) T
 have zik:=N5 (k:=4) T zij (zjW.mono (by decide))
 have two:zF P w K mg base zY 2 a.uP a.uQ vA zes:=J5 (k:=1) T
 have table:=JG (k:=2) T zat (Lz.mono (by decide)) flipped (partsOf.mono (by decide)) two 24
 have zgG:=zgw (k:=2) T (Lz.mono (by decide)) flipped
 have hangs:=zfk (k:=2) T flipped
 have first:=zbq (k:=3) T hangs
 have zjX:=W6 (k:=4) T first (zgG.mono (by decide)) 9
 have enter:=zbr (k:=26) T (zlp.mono (by decide)) (zik.mono (by decide)) table (zjX.mono (by decide))
 have init:=zdZ (k:=3) T zii (zat.mono (by decide))
 have mbr:zF P w K mg base zY 1 a.yX a.yZ yJ (Yx a.zE):=R9 (k:=0) T
 have tat:zF P w K mg base zY 1 a.wI a.wJ xQ (XS a.zE):=K7 (k:=0) T
 have zlq:zF P w K mg base zY 1 a.vQ a.vR wM (uJ (yV a.zE)):=zbX (k:=0) T
 have zbA:zF P w K mg base zY 1 a.X7 a.X8 Yz X3:=zgA (k:=0) T
 have vo:zF P w K mg base zY 1 a.xR a.xT xg (zai K):=zid (k:=0) T
 have lcu:=zfr (k:=1) T draw
 have zmO:=zfm (k:=1) T zlq
 have zfv:=J8 (k:=2) T zmO
 have having:=zbu (K:=K) (k:=2) T zat (Lz.mono (by decide)) (zbA.mono (by decide))
 have rowsOf:=zgB (K:=K) (k:=3) T having
 have within:=zd2 (k:=4) T (mbr.mono (by decide)) (zfv.mono (by decide)) rowsOf (tat.mono (by decide)) (zbA.mono (by decide))
 have widen:zF P w K mg base zY 1 a.QL a.QM Uh QB:=zgC (k:=0) T
 have prime:=zfn (k:=5) T within (widen.mono (by decide))
 have pf:=Qa (k:=3) T (zat.mono (by decide)) zgG 9
 have pr:=zig (k:=12) T (mbr.mono (by decide)) (tat.mono (by decide)) (zlq.mono (by decide)) pf
 have ofOne:=zbw (K:=K) (k:=1) T zbA
 have fv:=J7 (K:=K) (k:=3) T zgG
 have fr:=zd0 (K:=K) (k:=4) T fv
 have cov:=zjQ (K:=K) (k:=13) T pr (rowsOf.mono (by decide)) (ofOne.mono (by decide)) (fr.mono (by decide)) (zlq.mono (by decide))
 have zil:=K8 (K:=K) (k:=3) T zfv
 have zlO:=zfp (K:=K) (k:=4) T (mbr.mono (by decide)) zil rowsOf (tat.mono (by decide))
 have zlP:zF P w K mg base zY 1 a.Yi a.Yj tD V9:=zfl (k:=0) T
 have lval:=zcK (k:=1) (base:=base) (K:=K) T 20
 have zqe:=zgz (k:=21) T (zlP.mono (by decide)) (lval.mono (by decide))
 have lcr:zF P w K mg base zY 1 a.uz a.uD wO U6:=K9 (k:=0) T
 have lin:=zbZ (k:=1) T lcr
 have lpr:=zd3 (k:=2) T lin
 have Pb:zF P w K mg base zY 1 a.Li a.Lj Rt (zaf K):=zih (k:=0) T
 have valueAt:zF P w K mg base zY 1 a.Td a.Te Wn (Qn K):=zfq (k:=0) T
 have shows:=zbx (K:=K) (k:=6) T (zlO.mono (by decide)) prime (rowsOf.mono (by decide)) (ofOne.mono (by decide)) (zlq.mono (by decide)) (Pb.mono (by decide)) (valueAt.mono (by decide))
 have has:zF P w K mg base zY 1 a.Xi a.Xj Zz Nk:=zgF (k:=0) T
 have zol:=zb0 (k:=1) T zlP has
 have lsh:=zd4 (k:=3) T (zol.mono (by decide)) lpr (has.mono (by decide))
 have bc:=Lx (k:=2) T (draw.mono (by decide)) lcu
 have br:=Ja (k:=1) T draw
 have fo:=zb2 (k:=1) T draw
 exact ok_law (k:=58) T (vo.mono (by decide)) (draw.mono (by decide)) (order.mono (by decide)) (sentence.mono (by decide)) (zqe.mono (by decide)) (zol.mono (by decide)) (lsh.mono (by decide)) (bc.mono (by decide)) (br.mono (by decide)) (fo.mono (by decide)) (init.mono (by decide)) (enter.mono (by decide)) (cov.mono (by decide)) (zlO.mono (by decide)) (shows.mono (by decide))
end
end K64
namespace PySem.W.Fast
def tw2247098996390499788:Nat:=0
def tw10978081119344293461:Nat:=0
def tw17758817888233813229:Nat:=0
def tw13949710138885311609:Nat:=0
def tw10767614512296478398:Nat:=0
def tw14019631955222390933:Nat:=0
def tw487014029968752651:Nat:=0
def tw9862953720864113608:Nat:=0
def tw9256328057201478260:Nat:=0
def tw14199404588360922763:Nat:=0
def tw6911688883529811407:Nat:=0
def tw17936746956489350566:Nat:=0
def tw14359098195331732156:Nat:=0
def tw10711268953154791548:Nat:=0
def tw4116757321865829924:Nat:=0
def tw3811281846420674917:Nat:=0
def tw14489431202090781762:Nat:=0
def tw8589613200830671200:Nat:=0
def tw17147422037140280620:Nat:=0
def tw17762967513654640256:Nat:=0
def tw9166474719385410912:Nat:=0
def tw5438929661395703739:Nat:=0
def tw9491918902683237953:Nat:=0
def tw2402180769253903444:Nat:=0
def tw13344118497479062822:Nat:=0
def tw2958736155879957548:Nat:=0
def tw12115422822284941890:Nat:=0
def tw14732450246539364153:Nat:=0
def tw2203516480777654457:Nat:=0
def tw11276998328942842199:Nat:=0
def tw15562979360044059469:Nat:=0
def tw3831710759724745842:Nat:=0
def tw7664662471404091609:Nat:=0
def tw6265410510231884688:Nat:=0
def tw3301124323713504299:Nat:=0
def tw13908008373400764947:Nat:=0
def tw2536166856651023829:Nat:=0
def tw4956693871649542151:Nat:=0
def tw10961223234829575325:Nat:=0
def tw6265213477310186980:Nat:=0
def tw18135651163946846223:Nat:=0
def tw14678968863810741585:Nat:=0
def tw18310261731596397858:Nat:=0
def tw5336815371936300086:Nat:=0
def tw12157079406385239832:Nat:=0
def tw1177685301731041629:Nat:=0
def tw7700228024569068530:Nat:=0
def tw5891675715334996040:Nat:=0
def tw13248635333733742435:Nat:=0
def tw4716156268325589626:Nat:=0
def tw2797791168451523440:Nat:=0
def tw14493491417073530248:Nat:=0
def tw2886522958097708041:Nat:=0
def tw14918971725682208199:Nat:=0
def tw17700945769557230860:Nat:=0
def tw5468149780384383434:Nat:=0
def tw8511818180690504798:Nat:=0
def tw18303540838258363081:Nat:=0
def tw7531458101072144696:Nat:=0
def tw10730274397122963845:Nat:=0
def tw9414776101562829546:Nat:=0
def tw13454971567611847083:Nat:=0
def tw14823143311029819432:Nat:=0
def tw9132558623542147556:Nat:=0
def tw5209822994155948116:Nat:=0
def tw13527607379832427525:Nat:=0
def tw14279350599653742863:Nat:=0
def tw691702078534398784:Nat:=0
def tw12398301495816900133:Nat:=0
def tw8156328199440140608:Nat:=0
def tw7211710303346861254:Nat:=0
def tw5927154076340859946:Nat:=0
def tw9162562916987561997:Nat:=0
def tw828199055674545956:Nat:=0
def tw2232341637298136516:Nat:=0
def tw12922526810738353513:Nat:=0
def tw9922798083253258658:Nat:=0
def tw1310005085040106449:Nat:=0
def tw15082369622580466645:Nat:=0
def tw4377353783292026409:Nat:=0
def tw5662651653595654629:Nat:=0
def tw12082311720544883228:Nat:=0
def tw5526742236967718656:Nat:=0
def tw6911925371323223262:Nat:=0
def tw8161488303689831195:Nat:=0
def tw4732640845771863201:Nat:=0
def tw13906198055056969577:Nat:=0
def tw10373751596835195461:Nat:=0
def tw2185550297010241304:Nat:=0
def tw9665181498781313634:Nat:=0
def tw8804856218138871678:Nat:=0
def tw1308855219201504777:Nat:=0
def tw11535316883005259929:Nat:=0
def tw7027770256790065199:Nat:=0
def tw18444407460551760005:Nat:=0
def tw8460533387842056206:Nat:=0
def tw11467211780016278861:Nat:=0
def tw17586586648364662085:Nat:=0
def tw10133885887857980200:Nat:=0
def tw1062434676895085180:Nat:=0
def tw5962223827053900297:Nat:=0
def tw15389042194315330720:Nat:=0
def tw5841151895717251978:Nat:=0
def tw3188943021613551886:Nat:=0
def tw7739012849346740284:Nat:=0
def tw9425028761692317088:Nat:=0
def tw8026927122037302217:Nat:=0
def tw13770299409696845014:Nat:=0
def tw11869982595661357776:Nat:=0
def tw9999933115151658653:Nat:=0
def tw14441165274582550240:Nat:=0
def tw15187827420419126229:Nat:=0
def tw143450867179038292:Nat:=0
def tw2609804591262166715:Nat:=0
def tw2865574517249727717:Nat:=0
def tw5365002302613080847:Nat:=0
def tw15994460316650763118:Nat:=0
def tw2463957463910187775:Nat:=0
def tw18057453218035991795:Nat:=0
def tw10835606286173679135:Nat:=0
def tw15614454442633163493:Nat:=0
def tw11063911695443654359:Nat:=0
def tw15485948530515701954:Nat:=0
def tw7918241883182460725:Nat:=0
def tw11050085004311942124:Nat:=0
def tw3751501936291210672:Nat:=0
def tw10743301150039209155:Nat:=0
def tw3057339421210913275:Nat:=0
def tw4967354457083283811:Nat:=0
def tw12217406397737184505:Nat:=0
def tw4160652580722342766:Nat:=0
def tw17551218255518075041:Nat:=0
def tw14449272178191855003:Nat:=0
def tw12602858998721925713:Nat:=0
def tw3013197857357394534:Nat:=0
def tw5263611217901807030:Nat:=0
def tw2244563823421171604:Nat:=0
def tw1156041522103343099:Nat:=0
def tw16296691732890782336:Nat:=0
def tw1130887801653273379:Nat:=0
def tw10548686868340287416:Nat:=0
def tw4073823865932255675:Nat:=0
def tw10558949251771844577:Nat:=0
def tw3885293347862203207:Nat:=0
def tw14025775661593992749:Nat:=0
def tw4950393893675047325:Nat:=0
def tw2867017401058517877:Nat:=0
def tw3012001809337001273:Nat:=0
def tw9841716670654550688:Nat:=0
def tw6460435338838685349:Nat:=0
def tw6492458987126971095:Nat:=0
def tw18170520944653377579:Nat:=0
def tw11249989757542698205:Nat:=0
def tw8341599204180132956:Nat:=0
def tw4730488045336727124:Nat:=0
def tw10198115096307286336:Nat:=0
def tw16418964950902895458:Nat:=0
def tw7036634119476067654:Nat:=0
def tw2119626745223110448:Nat:=0
def tw1595609971584951973:Nat:=0
def tw12437799191458155070:Nat:=0
def tw14182865221101723499:Nat:=0
def tw10009037579599643957:Nat:=0
def tw811390277991095532:Nat:=0
def tw14817184301701311231:Nat:=0
def tw11268139759094947671:Nat:=0
def tw10223556374808896341:Nat:=0
def tw2931960175707716692:Nat:=0
def tw3761769688502956767:Nat:=0
def tw12078938523624814827:Nat:=0
def tw18224830625745797860:Nat:=0
def tw12549570928130867830:Nat:=0
def tw3951746733259178841:Nat:=0
def tw6709243011338968328:Nat:=0
def tw2444045435172642161:Nat:=0
def tw18366610073389958119:Nat:=0
def tw3416805161391737001:Nat:=0
def tw6007423707989703954:Nat:=0
def tw12224139732555243340:Nat:=0
def tw13753070867959358519:Nat:=0
def tw15032666327111374169:Nat:=0
def tw1045278449370244832:Nat:=0
def tw11958009930012251840:Nat:=0
def tw17124962738431645588:Nat:=0
def tw7646659200521721999:Nat:=0
def tw15110000130508522349:Nat:=0
def tw3598862718881601019:Nat:=0
def tw13924556210142070356:Nat:=0
def tw414633669014685445:Nat:=0
def tw17355729575781225016:Nat:=0
def tw4182288739432783559:Nat:=0
def tw4615355145170964577:Nat:=0
def tw14352613881310778965:Nat:=0
def tw13323751349253406755:Nat:=0
def tw12046895902627193283:Nat:=0
def tw13294614764761757335:Nat:=0
def tw10429251395621147829:Nat:=0
def tw7460635698813558931:Nat:=0
def tw15535804483031679376:Nat:=0
def tw4321375638982039590:Nat:=0
def tw9534892616409115348:Nat:=0
def tw10743674843364206465:Nat:=0
def tw5473078607030521739:Nat:=0
def tw6253945426378651250:Nat:=0
def tw10009760445680036901:Nat:=0
def tw6424259484927612083:Nat:=0
def tw3514397224804349047:Nat:=0
def tw878098468281294353:Nat:=0
def tw15136888459859114527:Nat:=0
def tw5372568134923714218:Nat:=0
def tw1158177679175216024:Nat:=0
def tw11050179689378750771:Nat:=0
def tw4658574523088358309:Nat:=0
def tw3029980931372966368:Nat:=0
def tw15144242730660179407:Nat:=0
end PySem.W.Fast
open PySem PySem.W PyProof.Rows
set_option maxRecDepth 100000 in
set_option maxHeartbeats 0 in
theorem PySem.Challenge.cw_decidebook_k64_covers_judged_holds : PySem.Challenge.rw_decidebook_k64_covers_judged.Holds := by
  w_on;o_law;k_head;(case hw => w_witness2)
  k_fill
  refine L2.ziG (l := PySem.Challenge.rw_decidebook_k64_covers_judged) (n := 63) (k := 60) (x := "script") (CX := L2.zY) (sp := xV.zg6) rfl (by decide) rfl (by first | exact⟨rfl, by decide, by decide⟩ | exact⟨rfl, rfl, by decide, by decide⟩) (fun w h Y => PySem.W.kIn_of Y) ?F ?S ?C
  case F =>
    intro w mg fa h KX G hmg
    have T : ∃a, K64.Txt PySem.Challenge.rw_decidebook_k64_covers_judged.prog w (L2.KOf KX) mg a := by
      dsimp only[L2.KOf]
      apply K64.zn3
      constructor
      (try dsimp only);apply mg_of KX G;k_is
      iterate 58 ((try dsimp only);apply L2.dfm KX G;k_is;k_is;k_is;k_is;intro _ _ _ _ _ _ us hl;first|(have z:=L2.QX hl;subst z;rfl)|(obtain⟨_,us,e,hm⟩:=L2.MJ hl;clear hl;subst e;have hl:=hm;clear hm;first|(have z:=L2.QX hl;subst z;rfl)|(obtain⟨_,us,e,hm⟩:=L2.MJ hl;clear hl;subst e;have hl:=hm;clear hm;first|(have z:=L2.QX hl;subst z;rfl)|(obtain⟨_,us,e,hm⟩:=L2.MJ hl;clear hl;subst e;have hl:=hm;clear hm;first|(have z:=L2.QX hl;subst z;rfl)|(obtain⟨_,us,e,hm⟩:=L2.MJ hl;clear hl;subst e;have hl:=hm;clear hm;first|(have z:=L2.QX hl;subst z;rfl)|(obtain⟨_,us,e,hm⟩:=L2.MJ hl;clear hl;subst e;have hl:=hm;clear hm;first|(have z:=L2.QX hl;subst z;rfl)|(obtain⟨_,us,e,hm⟩:=L2.MJ hl;clear hl;subst e;have hl:=hm;clear hm;first|(have z:=L2.QX hl;subst z;rfl)|(obtain⟨_,us,e,hm⟩:=L2.MJ hl;clear hl;subst e;have hl:=hm;clear hm;(have z:=L2.QX hl;subst z;rfl)))))))))
      iterate 10 ((try dsimp only);apply L2.dmm;k_is;k_is;k_is;k_is;k_is;intro _ _ _ _ _ _ us hl;first|(have z:=L2.QX hl;subst z;rfl)|(obtain⟨_,us,e,hm⟩:=L2.MJ hl;clear hl;subst e;have hl:=hm;clear hm;first|(have z:=L2.QX hl;subst z;rfl)|(obtain⟨_,us,e,hm⟩:=L2.MJ hl;clear hl;subst e;have hl:=hm;clear hm;first|(have z:=L2.QX hl;subst z;rfl)|(obtain⟨_,us,e,hm⟩:=L2.MJ hl;clear hl;subst e;have hl:=hm;clear hm;first|(have z:=L2.QX hl;subst z;rfl)|(obtain⟨_,us,e,hm⟩:=L2.MJ hl;clear hl;subst e;have hl:=hm;clear hm;first|(have z:=L2.QX hl;subst z;rfl)|(obtain⟨_,us,e,hm⟩:=L2.MJ hl;clear hl;subst e;have hl:=hm;clear hm;first|(have z:=L2.QX hl;subst z;rfl)|(obtain⟨_,us,e,hm⟩:=L2.MJ hl;clear hl;subst e;have hl:=hm;clear hm;first|(have z:=L2.QX hl;subst z;rfl)|(obtain⟨_,us,e,hm⟩:=L2.MJ hl;clear hl;subst e;have hl:=hm;clear hm;(have z:=L2.QX hl;subst z;rfl)))))))))
      iterate 2 ((try dsimp only);constructor;k_is;k_is;k_is;k_is)
      iterate 4 ((try dsimp only);unfold L2.Wg;k_is)
      (try dsimp only);apply mg_of KX G;k_is
      (try dsimp only);apply L2.zg7;k_is;rfl;decide
      iterate 3 ((try dsimp only);apply mg_of KX G;k_is)
      (try dsimp only);apply L2.zmr;k_is;rfl;(unfold K64.xM;decide +kernel);(unfold K64.xM;iterate 10 (apply L2.Ent.cons;k_is;rfl));apply L2.Ent.nil
      (try dsimp only);apply mg_of KX G;k_is
      (try dsimp only);apply L2.zg7;k_is;rfl;decide
      iterate 16 ((try dsimp only);apply mg_none_of KX G;k_is)
    obtain⟨a, T⟩ := T
    have e0 := hmg.symm.trans T.f_law.m
    cases e0
    exact⟨_, K64.x_law T.f_law, fun base kb nb => K64.zln T base⟩
  case S => exact fun K H a ns hl hO hS => ⟨a, ns, rfl, hS, hl, fun _ => rfl⟩
  case C => exact fun _ _ _ _ h => h
