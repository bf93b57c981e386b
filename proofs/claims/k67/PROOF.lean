import PyProof.Rows.All
import Wide.All
import OpenK.AllK
import Wide.FinOn
import Lean
import PyProof.EqAt
import PyProof.EqKinds
import PyProof.TupleCall
import KE.KRevIter
import OpenK.KOwn
import PyProof.Draws
import PyProof.EnumMake
import PyProof.StrBlockI
import PyProof.StrBlock2
import PyProof.DictValues
import PyProof.DictWalks
import PySem.Challenge.RW_decidebook_k67_rooms_stay_what_they_are
open PySem.W (Frag nsIn mg_of findIn mg_none_of)
def zrs:=@List.length_map
def zrt:=@List.getElem?_eq_getElem
def zru:=@List.getElem?_map
def zrv:=@List.getElem?_eq_some_iff
def zrw:=@Bool.false_ne_true
def zrx:=@List.mem_of_getElem?
def zry:=@PySem.Heap.get?_push_of_some
def zrz:=@PySem.Heap.lt_size
def zrA:=@List.length_append
def zrB:=@Nat.lt_of_lt_of_le
def zrC:=@List.size_toArray
def zrD:=@List.mem_cons_of_mem
def zrE:=@List.length_cons
def zrF:=@List.getD_eq_getElem?_getD
def zrG:=@List.map_append
def zrH:=@Nat.ne_of_lt
def zrI:=@Nat.le_refl
def zrJ:=@List.mem_append_right
def zrK:=@List.length_range
def zrL:=@Nat.le_of_lt
def zrM:=@List.mem_cons_self
def zrN:=@PySem.Heap.get?_push_size
def zrO:=@Nat.le_trans
def zrP:=@Nat.zero_le
def zrQ:=@List.length_take
def zrR:=@List.map_cons
def zrS:=@List.lookup_cons
def zrT:=@List.not_mem_nil
def zrU:=@Bool.and_eq_true
def zrV:=@List.take_length
def zrW:=@List.all_eq_true
def zrX:=@Option.some.inj
def zrY:=@Nat.pow_le_pow_right
def zrZ:=@List.getElem?_append_left
def zr0:=@List.length_singleton
def zr1:=@List.length_filter_le
def zr2:=@List.getElem?_eq_none
def zr3:=@Nat.le_add_right
def zr4:=@List.map_map
def zr5:=@Int.toNat_natCast
def zr6:=@List.filter_append
def zr7:=@Int.emod_lt_of_pos
def zr8:=@Bool.eq_iff_iff
def zr9:=@List.getElem_of_mem
def zsa:=@Int.emod_nonneg
set_option Elab.async false
set_option linter.all false
set_option maxRecDepth 100000
namespace L2
open PySem PySem.Spec PyProof.Rows
abbrev Key:=Sum Int Str
def zaZ:Key->Value->Bool
 | .inl k,v=>Value.isInt k v
 | .inr x,v=>Value.isStrOf x v
def znq (w:World):Key->Int
 | .inl k=>hashInt k
 | .inr x=>hashStr w x
theorem xq:∀{k:Key} {v:Value},zaZ k v=true->(∃i t,k=Sum.inl i/\v=Value.int i t)\/(∃x t,k=Sum.inr x/\v=Value.str x t)
 | .inl i,v,h=>by
  obtain⟨t,e⟩:=Value.isInt_shape (k:=i) (v:=v) h
  exact .inl ⟨i,t,rfl,e⟩
 | .inr x,v,h=>by
  obtain⟨t,e⟩:=Value.isStrOf_shape (x:=x) (v:=v) h
  exact .inr ⟨x,t,rfl,e⟩
theorem zfW (i:Int)(t:Tok):zaZ (.inl i) (.int i t)=true:=by simp[zaZ,Value.isInt]
theorem zfX (x:Str)(t:Tok):zaZ (.inr x) (.str x t)=true:=by simp[zaZ,Value.isStrOf]
theorem zkg (a b:Int):decide ((Sum.inl a:Key)=Sum.inl b)=(a==b):=by
 by_cases e:a=b
 ·subst e;simp
 ·have h:¬(Sum.inl a:Key)=Sum.inl b:=fun q=>e (Sum.inl.inj q)
  rw[decide_eq_false h]
  exact(beq_eq_false_iff_ne.mpr e).symm
theorem zkh (a b:Str):decide ((Sum.inr a:Key)=Sum.inr b)=decide (a=b):=by
 by_cases e:a=b
 ·subst e;simp
 ·have h:¬(Sum.inr a:Key)=Sum.inr b:=fun q=>e (Sum.inr.inj q)
  rw[decide_eq_false h,decide_eq_false e]
theorem zki (a:Int)(b:Str):decide ((Sum.inl a:Key)=Sum.inr b)=false:=decide_eq_false (fun q=>nomatch q)
theorem zkj (a:Str)(b:Int):decide ((Sum.inr a:Key)=Sum.inl b)=false:=decide_eq_false (fun q=>nomatch q)
def yc (prog:Program)(w:World):PySem.KeyKind prog w Key where
 is:=zaZ
 hash:=znq w
 inj:=fun v a b ha hb=>by
  rcases xq ha with ⟨i,t,rfl,rfl⟩ | ⟨x,t,rfl,rfl⟩
  ·rcases xq hb with ⟨j,u,rfl,e⟩ | ⟨y,u,rfl,e⟩
   ·injection e with e1 _;rw[e1]
   ·exact nomatch e
  ·rcases xq hb with ⟨j,u,rfl,e⟩ | ⟨y,u,rfl,e⟩
   ·exact nomatch e
   ·injection e with e1 _;rw[e1]
 byValue:=fun k v h=>by
  rcases xq h with ⟨i,t,rfl,rfl⟩ | ⟨x,t,rfl,rfl⟩<;>rfl
 pyHash:=fun hv h=>by
  rcases xq hv with ⟨i,t,rfl,rfl⟩ | ⟨x,t,rfl,rfl⟩
  ·exact wpAny_pyHash_int h
  ·exact wpAny_pyHash_str h
 eqBool:=fun hu hv h=>by
  rcases xq hu with ⟨i,t,rfl,rfl⟩ | ⟨x,t,rfl,rfl⟩
  ·rcases xq hv with ⟨j,u,rfl,rfl⟩ | ⟨y,u,rfl,rfl⟩
   ·rw[zkg] at h;exact wpAny_eqBool_int h
   ·rw[zki] at h;exact SeqAt.EqAt.int_str i t y u _ _ _ _ h
  ·rcases xq hv with ⟨j,u,rfl,rfl⟩ | ⟨y,u,rfl,rfl⟩
   ·rw[zkj] at h;exact SeqAt.EqAt.str_int x t j u _ _ _ _ h
   ·rw[zkh] at h;exact wpAny_eqBool_str h
 «strs»:=fun k x t v h=>by
  rcases xq h with ⟨i,u,rfl,e⟩ | ⟨y,u,rfl,e⟩
  ·exact nomatch e
  ·injection e with e1 _
   subst e1
   cases v<;>rfl
theorem zcW (prog:Program)(w:World)(i:Int)(t:Tok):(yc prog w).is (.inl i) (.int i t)=true:=zfW i t
theorem zcX (prog:Program)(w:World)(x:Str)(t:Tok):(yc prog w).is (.inr x) (.str x t)=true:=zfX x t
inductive V where
 | non | bl (b:Bool) | int (i:Int) | str (x:Str) | byt (b:Array UInt8) | flt (b:UInt64) | ref (a:Addr) | ty (n:String)
 deriving DecidableEq
def RelV:V->Value->Prop
 | .non,u=>u=Value.none
 | .bl b,u=>u=Value.bool b
 | .int i,u=>∃t,u=Value.int i t
 | .str x,u=>∃t,u=Value.str x t
 | .byt b,u=>∃t,u=Value.bytes b t
 | .flt b,u=>∃t,u=Value.float b t
 | .ref a,u=>u=Value.ref a
 | .ty n,u=>u=Value.type n
abbrev Vals:List V->List Value->Prop:=Paired RelV
theorem Vals.length {xs:List V}{us:List Value}(r:Vals xs us):xs.length=us.length:=Paired.length r
theorem Vals.get:∀{xs:List V} {us:List Value} {i:Nat} {x:V},Vals xs us->xs[i]?=some x->∃u,us[i]?=some u/\RelV x u
 | _,_,_,_,.nil,e=>by simp at e
 | _,_,0,_,.cons r _,e=>by simp at e;subst e;exact⟨_,rfl,r⟩
 | _,_,i+1,x,.cons _ t,e=>by
  obtain⟨u,h1,h2⟩:=Vals.get (i:=i) (x:=x) t (by simpa using e)
  exact⟨u,by simpa using h1,h2⟩
theorem Vals.append:∀{xs ys:List V} {us ws:List Value},Vals xs us->Vals ys ws->Vals (xs++ys) (us++ws)
 | _,_,_,_,.nil,s=>s
 | _,_,_,_,.cons r t,s=>.cons r (Vals.append t s)
theorem Vals.take:∀{xs:List V} {us:List Value} (n:Nat),Vals xs us->Vals (xs.take n) (us.take n)
 | _,_,0,_=>.nil
 | _,_,_+1,.nil=>.nil
 | _,_,n+1,.cons r t=>.cons r (Vals.take n t)
theorem Vals.drop:∀{xs:List V} {us:List Value} (n:Nat),Vals xs us->Vals (xs.drop n) (us.drop n)
 | _,_,0,r=>r
 | _,_,_+1,.nil=>.nil
 | _,_,n+1,.cons _ t=>Vals.drop n t
def Ur:Option V->Option Value->Prop
 | some v,some u=>RelV v u
 | none,none=>True
 | _,_=>False
def KV {κ:Type}:List (κ×V)->List (κ×Value)->Prop:=Paired fun(p:κ×V) (q:κ×Value)=>p.1=q.1/\RelV p.2 q.2
def kV:Key->V
 | .inl i=>.int i
 | .inr x=>.str x
inductive HO where
 | lst (xs:List V)
 | tup (xs:List V)
 | dK (kvs:List (Key×V)) | dT (kvs:List (List Key×V))
 | set (S:Int->Bool) (n:Nat)
 | ins (C dx:Addr) (fs:List (Str×V))
 | own (x:Addr)
 | xd (fs:List (Str×V))
 | met (f x:Addr)
 | rng (lo hi:Int)
 | Ji (o:Obj) (u:HO)
 | tbl (ps:Array Value)
 | ext (φ:Heap->Prop)
abbrev Hp:=Addr->Option HO
def upd (H:Hp)(a:Addr)(o:HO):Hp:=fun b=>if b=a then some o else H b
theorem zj {H:Hp}{a:Addr}{o:HO}:upd H a o a=some o:=by unfold upd;rw[if_pos rfl]
theorem zB {H:Hp}{a b:Addr}{o:HO}(h:b≠a):upd H a o b=H b:=by unfold upd;rw[if_neg h]
theorem zil {H:Hp}{a:Addr}{o u:HO}:upd (upd H a o) a u=upd H a u:=by
 funext b;unfold upd;split<;>rfl
theorem Us {H:Hp}{a b:Addr}{o u:HO}(h:H a=some o)(h':H b=some u)(d:o≠u):a≠b:=by
 intro e;subst e;rw[h] at h';exact d (zrX h')
theorem zy {H:Hp}{a b:Addr}{o:HO}(h:H a=some o)(h':H b=none):a≠b:=by
 intro e;subst e;rw[h] at h';cases h'
section
variable (P:Program)(w:World)
def wM (H:Hp)(h:Heap)(a:Addr):HO->Prop
 | .lst xs=>xs.length<=sizeLine/\∃(its:List Value) (n:Nat),Vals xs its/\h.get? a=some { cls:=.type "list", data:=.seq its.toArray n }
 | .tup xs=>xs.length<=sizeLine/\∃its:List Value,Vals xs its/\IsTup h a its.toArray
 | .dK kvs=>kvs.length<=sizeLine/\(a==sysModules)=false/\∃vs,KV kvs vs/\h.DictOf (yc P w) a vs
 | .dT kvs=>kvs.length<=sizeLine/\(a==sysModules)=false/\∃xs:List (List Key×Addr×Value),
   Paired (fun(p:List Key×V) (q:List Key×Addr×Value)=>p.1=q.1/\H q.2.1=some (.tup (p.1.map kV))/\RelV p.2 q.2.2) kvs xs /\
   ∃o es ep,h.get? a=some o/\o.ExactDict/\o.data=.dict es ep/\es.toList=xs.map (entryOfKey (tupleKind (yc P w)))/\(xs.map (·.1)).Nodup
 | .set S n=>h.SetOf (intKind P w) a S n
 | .ins C dx fs=>H dx=some (.own a)/\fs.length<=1000/\dx≠a/\h.get? a=some (PySem.W.instObj C dx) /\
   ∃mA,h.Ns1 dx mA/\(∀f,Ur (fs.lookup f) (mA f))/\PySem.Within mA (fs.map (·.1))
 | .own _=>∃o,h.get? a=some o
 | .xd fs=>∃mA,h.Ns1 a mA/\∀f,Ur (fs.lookup f) (mA f)
 | .rng lo hi=>∃t u v,h.get? a=some { cls:=.type "range", data:=.fields #[.int lo t,.int hi u,.int 1 v] }
 | .Ji o u=>h.get? a=some o/\wM H h a u
 | .tbl ps=>h.get? a=some { cls:=.none,data:=.fields ps }
 | .met f x=>h.get? a=some (PySem.W.methodObj (.ref f) (.ref x))
 | .ext φ=>φ h/\(∃o,h.get? a=some o)/\∀h1 h2:Heap,φ h1->(∀o,h1.get? a=some o->h2.get? a=some o)->φ h2
def S9 (H:Hp)(h:Heap):Prop:=∀a o,H a=some o->wM P w H h a o
end
section
variable {P:Program}{w:World}{H H':Hp}{h h':Heap}{a:Addr}{o:HO}
theorem wM.lt (x:wM P w H h a o):a<h.objs.size:=by
 cases o with
 | lst xs=>obtain⟨_,_,_,_,e⟩:=x;exact zrz e
 | tup xs=>obtain⟨_,_,_,p⟩:=x;exact p.lt
 | dK kvs=>obtain⟨_,_,_,_,o,_,_,e,_⟩:=x;exact zrz e
 | dT kvs=>obtain⟨_,_,_,_,o,_,_,e,_⟩:=x;exact zrz e
 | set S n=>obtain⟨o,_,_,_,e,_⟩:=x;exact zrz e
 | ins C dx fs=>obtain⟨_,_,_,e,_⟩:=x;exact zrz e
 | own y=>obtain⟨_,e⟩:=x;exact zrz e
 | xd fs=>obtain⟨_,⟨_,_,_,e,_⟩,_⟩:=x;exact zrz e
 | rng lo hi=>obtain⟨_,_,_,e⟩:=x;exact zrz e
 | Ji ob u=>obtain⟨e,_⟩:=x;exact zrz e
 | tbl ps=>exact zrz (show h.get? a=some _ from x)
 | met f y=>exact zrz (show h.get? a=some _ from x)
 | ext φ=>obtain⟨_,⟨_,e⟩,_⟩:=x;exact zrz e
theorem Paired.zkl {α β:Type}{F G:α->β->Prop}:∀{l₁:List α} {l₂:List β},Paired F l₁ l₂->(∀a b,F a b->G a b)->Paired G l₁ l₂
 | _,_,.nil,_=>.nil
 | _,_,.cons r t,f=>.cons (f _ _ r) (Paired.zkl t f)
theorem wM.stay (x:wM P w H h a o)(k:∀b u,(b=a\/H b=some (.own a))->h.get? b=some u->h'.get? b=some u)
  (ho:∀b,H b=some (.own a)->H' b=some (.own a))(ht:∀b xs,H b=some (.tup xs)->H' b=some (.tup xs)):wM P w H' h' a o:=by
 induction o with
 | lst xs=>obtain⟨z,its,n,r,e⟩:=x;exact⟨z,its,n,r,k _ _ (.inl rfl) e⟩
 | tup xs=>obtain⟨z,its,r,ob,e,c⟩:=x;exact⟨z,its,r,ob,k _ _ (.inl rfl) e,c⟩
 | dK kvs=>obtain⟨z,y,vs,r,ob,es,ep,e,c⟩:=x;exact⟨z,y,vs,r,ob,es,ep,k _ _ (.inl rfl) e,c⟩
 | dT kvs =>
  obtain⟨z,y,xs,r,ob,es,ep,e,c⟩:=x
  exact⟨z,y,xs,Paired.zkl r fun p q z=>⟨z.1,ht _ _ z.2.1,z.2.2⟩,ob,es,ep,k _ _ (.inl rfl) e,c⟩
 | set S n=>obtain⟨ob,es,ep,t,e,c⟩:=x;exact⟨ob,es,ep,t,k _ _ (.inl rfl) e,c⟩
 | ins C dx fs =>
  obtain⟨d,z,ne,e,mA,⟨od,es,ep,e2,c⟩,r⟩:=x
  exact⟨ho _ d,z,ne,k _ _ (.inl rfl) e,mA,⟨od,es,ep,k _ _ (.inr d) e2,c⟩,r⟩
 | own y=>obtain⟨ob,e⟩:=x;exact⟨ob,k _ _ (.inl rfl) e⟩
 | xd fs=>obtain⟨mA,⟨od,es,ep,e,c⟩,r⟩:=x;exact⟨mA,⟨od,es,ep,k _ _ (.inl rfl) e,c⟩,r⟩
 | rng lo hi=>obtain⟨t,u,v,e⟩:=x;exact⟨t,u,v,k _ _ (.inl rfl) e⟩
 | Ji ob u ih=>obtain⟨e,q⟩:=x;exact⟨k _ _ (.inl rfl) e,ih q⟩
 | tbl ps =>
  have e:h.get? a=some { cls:=.none,data:=.fields ps }:=x
  show h'.get? a=some { cls:=.none,data:=.fields ps }
  exact k a _ (.inl rfl) e
 | met f y =>
  have e:h.get? a=some (PySem.W.methodObj (.ref f) (.ref y)):=x
  show h'.get? a=some (PySem.W.methodObj (.ref f) (.ref y))
  exact k a _ (.inl rfl) e
 | ext φ=>obtain⟨p,⟨o,e⟩,st⟩:=x;exact⟨st _ _ p fun o q=>k _ _ (.inl rfl) q,⟨o,k _ _ (.inl rfl) e⟩,st⟩
theorem S9.lt (x:S9 P w H h)(e:H a=some o):a<h.objs.size:=(x a o e).lt
theorem S9.fresh (x:S9 P w H h)(e:h.objs.size<=a):H a=none:=by
 cases q:H a with
 | none=>rfl
 | some u=>exact absurd (zrB (x.lt q) e) (Nat.lt_irrefl _)
theorem S9.kept (x:S9 P w H h)(k:∀b u,h.get? b=some u->h'.get? b=some u):S9 P w H h':=fun a o e =>
 (x a o e).stay (fun b u _ q=>k b u q) (fun _ q=>q) fun _ _ q=>q
theorem S9.laid (x:S9 P w H h)(k:∀b u,h.get? b=some u->h'.get? b=some u)(hp:h.objs.size<=a)(new:wM P w (upd H a o) h' a o):S9 P w (upd H a o) h':=fun b u e=>by
 have hn:=x.fresh hp
 by_cases hb:b=a
 ·subst hb;rw[zj] at e;cases e;exact new
 ·rw[zB hb] at e
  exact(x b u e).stay (fun c v _ q=>k c v q) (fun c q=>by rw[zB (zy q hn)];exact q) fun c xs q=>by rw[zB (zy q hn)];exact q
end
def Rd (H:Hp)(a:Addr)(u:HO):Prop:=H a=some u\/∃o,H a=some (.Ji o u)
theorem Rd.ok {P:Program}{w:World}{H:Hp}{h:Heap}{a:Addr}{u:HO}(r:Rd H a u)(x:S9 P w H h):wM P w H h a u:=by
 rcases r with r | ⟨o,r⟩
 ·exact x a u r
 ·obtain⟨_,q⟩:=x a _ r
  exact q
def Mut:Option HO->Prop
 | some (.lst _)=>True
 | some (.dK _)=>True
 | some (.dT _)=>True
 | some (.set _ _)=>True
 | some (.ins _ _ _)=>True
 | some (.ext _)=>True
 | _=>False
section
variable {P:Program}{w:World}{H:Hp}{h h':Heap}{x e:Addr}{o':HO}
theorem S9.write (ok:S9 P w H h)(mu:Mut (H x))(he:e=x\/H e=some (.own x))(k:∀b u,b≠e->h.get? b=some u->h'.get? b=some u)(heo:∃u,h'.get? e=some u)
  (new:wM P w (upd H x o') h' x o'):S9 P w (upd H x o') h':=fun b u q=>by
 have zlE:∀c y,H c=some (.own y)->c≠x:=fun c y r z=>by subst z;rw[r] at mu;exact mu
 have znr:∀c xs,H c=some (.tup xs)->c≠x:=fun c xs r z=>by subst z;rw[r] at mu;exact mu
 by_cases hb:b=x
 ·subst hb;rw[zj] at q;cases q;exact new
 ·rw[zB hb] at q
  by_cases hbe:b=e
  ·have q':H b=some (.own x):=by
    rcases he with z | z
    ·exact absurd (hbe.trans z) hb
    ·rw[hbe];exact z
   rw[q] at q';cases q'
   obtain⟨v,hv⟩:=heo
   exact⟨v,by rw[hbe];exact hv⟩
  ·refine(ok b u q).stay (fun c v hc r=>k c v ?_ r) (fun c r=>by rw[zB (zlE c b r)];exact r) fun c xs r=>by rw[zB (znr c xs r)];exact r
   rcases hc with rfl | hc
   ·exact hbe
   ·rintro rfl
    rcases he with z | z
    ·exact zlE c b hc z
    ·rw[hc] at z;cases z;exact hb rfl
end
structure Un (fs ex:List Addr)(H H':Hp)(h h':Heap):Prop where
 keep:∀b o,h.get? b=some o->H b=none->b∉fs->b∉ex->h'.get? b=some o
 slot:∀b o,h.get? b=some o->H b=none->b∈fs->b∉ex->∃sl,h'.get? b=some { o with slots:=sl }
 free:∀b o,h.get? b=some o->H b=none->b∉ex->H' b=none
 there:∀b o,h.get? b=some o->b∉ex->∃o',h'.get? b=some o'
 tups:∀b xs,H b=some (.tup xs)->H' b=some (.tup xs)
 zax:∀b o u,H b=some (.Ji o u)->H' b=some (.Ji o u)
 zbH:∀b ps,H b=some (.tbl ps)->∃more,H' b=some (.tbl (ps++more))
section
variable {fs fs' ex ex':List Addr}{H H1 H2:Hp}{h h1 h2 h':Heap}{a x e:Addr}{o:HO}
theorem Un.any (u:Un fs ex H H1 h h1){b:Addr}{ob:Obj}(q:h.get? b=some ob)(n:H b=none)(hx:b∉ex):∃sl,h1.get? b=some { ob with slots:=sl }:=by
 by_cases hb:b∈fs
 ·exact u.slot b ob q n hb hx
 ·exact⟨ob.slots,u.keep b ob q n hb hx⟩
theorem Un.kept (k:∀b u,h.get? b=some u->h'.get? b=some u):Un fs ex H H h h' :=
 ⟨fun b ob q _ _ _=>k b ob q,fun b ob q _ _ _=>⟨ob.slots,k b ob q⟩,fun _ _ _ n _=>n,fun b ob q _=>⟨ob,k b ob q⟩,fun _ _ q=>q,fun _ _ _ q=>q,fun _ ps q=>⟨#[],by rw[q];simp⟩⟩
theorem Un.refl:Un fs ex H H h h:=Un.kept fun _ _ q=>q
theorem Un.laid (k:∀b u,h.get? b=some u->h'.get? b=some u)(hp:h.objs.size<=a)(hn:H a=none):Un fs ex H (upd H a o) h h' where
 keep:=fun b u q _ _ _=>k b u q
 slot:=fun b u q _ _ _=>⟨u.slots,k b u q⟩
 free:=fun b u q n _=>by rw[zB (zrH (zrB (zrz q) hp))];exact n
 there:=fun b u q _=>⟨u,k b u q⟩
 tups:=fun b xs q=>by rw[zB (zy q hn)];exact q
 zax:=fun b u xs q=>by rw[zB (zy q hn)];exact q
 zbH:=fun b ps q=>⟨#[],by rw[zB (zy q hn),q];simp⟩
theorem Un.write (mu:Mut (H x))(he:e=x\/H e=some (.own x))(k:∀b u,b≠e->h.get? b=some u->h'.get? b=some u)(heo:∃u,h'.get? e=some u):Un fs ex H (upd H x o) h h':=by
 have hx:∀b,H b=none->b≠x:=fun b n z=>by subst z;rw[n] at mu;exact mu
 have hb:∀b,H b=none->b≠e:=fun b n z=>by
  subst z
  rcases he with r | r
  ·exact hx b n r
  ·rw[n] at r;cases r
 have hm:∀b u,H b=some u->¬Mut (some u)->b≠x:=fun b u q nm z=>by subst z;rw[q] at mu;exact nm mu
 refine⟨fun b u q n _ _=>k b u (hb b n) q,fun b u q n _ _=>⟨u.slots,k b u (hb b n) q⟩,fun b u q n _=>by rw[zB (hx b n)];exact n,fun b u q _=>?_,
  fun b xs q=>by rw[zB (hm b _ q fun z=>z)];exact q,fun b u xs q=>by rw[zB (hm b _ q fun z=>z)];exact q,fun b ps q=>⟨#[],by rw[zB (hm b _ q fun z=>z),q];simp⟩⟩
 by_cases hbe:b=e
 ·subst hbe;exact heo
 ·exact⟨u,k b u hbe q⟩
end
def trk (h:Heap)(H:Hp):List Addr:=(List.range h.objs.size).filter fun a=>(H a).isSome
def zbI (h:Heap)(H:Hp):Heap:=PySem.W.hideAll h (trk h H)
theorem zfY (h:Heap)(H:Hp):(zbI h H).objs.size=h.objs.size:=PySem.W.hideAll_size _ _
theorem zgM {h:Heap}{H:Hp}{b:Addr}{o:Obj}(e:h.get? b=some o)(n:H b=none):(zbI h H).get? b=some o :=
 PySem.W.hideAll_get _ e fun hm=>by
  have q:(H b).isSome=true:=(List.mem_filter.mp hm).2
  rw[n] at q;simp at q
theorem zim {h:Heap}{H:Hp}{b:Addr}{o:Obj}(e:(zbI h H).get? b=some o):h.get? b=some o/\H b=none:=by
 have e':h.get? b=some o:=PySem.W.of_hideAll (trk h H) e
 refine⟨e',?_⟩
 cases q:H b with
 | none=>rfl
 | some x =>
  have hm:b∈trk h H:=List.mem_filter.mpr ⟨List.mem_range.mpr (zrz e'),by simp[q]⟩
  have z:(zbI h H).get? b=none:=PySem.W.hideAll_none (trk h H) hm
  rw[z] at e;cases e
structure Mod (K:Frag)(mg:Str->Option Value)(base:Heap):Prop where
 kin:K.In base
 glob:base.Ns mainGlobals mg
 blt:∃mb,base.Ns builtinsNs mb/\∀x:Str,x ≠ "__name__" -> mb x=bootBuiltins x
 nolimit:base.NoLimit
structure Cx where
 prog:Program
 w:World
 K:Frag
 mg:Str->Option Value
 base:Heap
 A:Around
 N:List Str
 s₀:Shared
 H₀:Hp
 env:Env
 outer:List Env
 stack:List Env
 ex:List Addr
 fn:Str->Bool
 calm:Bool
 pn:List (Addr×Obj)
 xe:Value->Shared->Prop
def frs (l:List Env):List Addr:=l.filterMap (·.frame)
abbrev Cx.fs (X:Cx):List Addr:=frs X.outer
def Vis (sc:Scope)(x:Str):Prop:=sc.names.lookup x=some .local\/sc.names.lookup x=some .cell\/sc.names.lookup x=some .free
def Loc (sc:Scope)(x:Str):Prop:=sc.names.lookup x=some .local\/sc.names.lookup x=some .cell
def Look (env:Env)(h:Heap)(m:Str->Option Value)(x:Str)(u:Value):Prop :=
 (env.kindOf x=some .local/\m x=some u)\/((env.kindOf x=some .cell\/env.kindOf x=some .free)/\∃c,env.cells.lookup x=some c/\h.IsCell c (some u))
structure Cx.Ok (X:Cx):Prop where
 mod:Mod X.K X.mg X.base
 kind:X.env.scope.kind=.function
 glob:X.env.globals=mainGlobals
 blt:X.env.builtins=builtinsNs
 above:X.s₀.heap.objs.size<=X.env.locals
 inj:∀x y c,X.env.cells.lookup x=some c->X.env.cells.lookup y=some c->x=y
 has:∀x,(X.env.kindOf x=some .cell\/X.env.kindOf x=some .free)->∃c,X.env.cells.lookup x=some c
 cab:∀x c,X.fn x=true->X.env.cells.lookup x=some c->X.s₀.heap.objs.size<=c
 hd:X.calm=true->X.A.handled=none
 frames:X.A.frames=some X.stack
 stk:X.stack=X.outer\/(X.stack=X.env::X.outer/\X.env.frame=some X.env.locals)
 exf:∀b∈X.ex,b≠X.env.locals/\∀x c,X.env.cells.lookup x=some c->c≠b
 bs:∀b o,X.base.get? b=some o->X.s₀.heap.get? b=some o/\X.H₀ b=none
 bsz:X.base.objs.size<=X.s₀.heap.objs.size
 zfZ:∀b o,X.base.get? b=some o->b∉X.ex
 zf0:∀b∈X.ex,b∉X.fs
 N5:X.s₀.heap.FunFrames X.base X.outer
 frf:∀b∈X.fs,X.H₀ b=none
structure Inv (X:Cx)(pins:List (Addr×Obj))(σ:List (Option V))(H:Hp)(s:Shared):Prop where
 ok:X.Ok
 os:s.os=X.s₀.os
 bare:AllBare s.gens
 base:Un X.fs X.ex X.H₀ H X.s₀.heap s.heap
 loc:∃m,s.heap.Ns X.env.locals m/\∀(i:Nat) (x:Str) (v:V),X.N[i]?=some x->σ[i]?=some (some v)->Vis X.env.scope x->∃u,RelV v u/\Look X.env s.heap m x u
 cell:∀x c,X.env.cells.lookup x=some c->∃v,s.heap.IsCell c v
 free:H X.env.locals=none
 Ut:∀x c,X.env.cells.lookup x=some c->H c=none
 pin:∀p∈X.pn++pins,s.heap.get? p.1=some p.2/\H p.1=none/\p.1≠X.env.locals/\p.1∉X.fs/\∀v,p.2.data≠.cell v
 hok:S9 X.prog X.w H s.heap
 len:σ.length=X.N.length
section
variable {X:Cx}{pins:List (Addr×Obj)}{σ:List (Option V)}{H H':Hp}{s:Shared}{h':Heap}
theorem Cx.Ok.zns (ok:X.Ok){b:Addr}{o:Obj}(e:X.base.get? b=some o):b∉X.fs:=fun hb=>by
 have:=(ok.N5.mem hb).1
 rw[e] at this;cases this
theorem Inv.bs (I:Inv X pins σ H s):∀b o,X.base.get? b=some o->s.heap.get? b=some o/\H b=none:=fun b o e =>
 ⟨I.base.keep b o (I.ok.bs b o e).1 (I.ok.bs b o e).2 (I.ok.zns e) (I.ok.zfZ b o e),I.base.free b o (I.ok.bs b o e).1 (I.ok.bs b o e).2 (I.ok.zfZ b o e)⟩
theorem Inv.bk (I:Inv X pins σ H s):∀b o,X.base.get? b=some o->s.heap.get? b=some o:=fun b o e=>(I.bs b o e).1
theorem Inv.mod (I:Inv X pins σ H s):Mod X.K X.mg X.base:=I.ok.mod
theorem Inv.N6 (I:Inv X pins σ H s):X.K.In s.heap:=I.ok.mod.kin.keeps I.bk
theorem Inv.lt (I:Inv X pins σ H s):X.env.locals<s.heap.objs.size:=let ⟨_,hn,_⟩:=I.loc;hn.lt
theorem Inv.sz (I:Inv X pins σ H s):X.s₀.heap.objs.size<=s.heap.objs.size:=zrO I.ok.above (zrL I.lt)
theorem Inv.zkm (I:Inv X pins σ H s){a:Addr}(h:s.heap.objs.size<=a):a∉X.fs:=fun hb=>by
 obtain⟨_,o,ho,_⟩:=I.ok.N5.mem hb
 exact absurd (zrB (zrz ho) (zrO I.sz h)) (Nat.lt_irrefl _)
theorem Inv.cne (I:Inv X pins σ H s):∀x c,X.env.cells.lookup x=some c->c≠X.env.locals:=fun x c e z=>by
 obtain⟨v,o,ho,hd⟩:=I.cell x c e
 obtain⟨m,⟨o',es,ep,ho',hd',_⟩,_⟩:=I.loc
 rw[z,ho'] at ho;cases ho;rw[hd'] at hd;cases hd
theorem Inv.N5 (I:Inv X pins σ H s):s.heap.FunFrames X.base X.outer:=by
 have all:∀(l:List Env),(∀b∈frs l,b∈X.fs)->X.s₀.heap.FunFrames X.base l->s.heap.FunFrames X.base l:=by
  intro l
  induction l with
  | nil=>intro _ _;trivial
  | cons env r ih =>
   intro hs hl
   obtain⟨hk,⟨L,o,hf,hn,ho,hd⟩,hr⟩:=hl
   have hL:L∈X.fs:=hs L (by unfold frs;rw[List.filterMap_cons,hf];exact zrM)
   obtain⟨sl,e⟩:=I.base.slot L o ho (I.ok.frf L hL) hL fun z=>I.ok.zf0 L z hL
   exact⟨hk,⟨L,_,hf,hn,e,hd⟩,ih (fun b hb=>hs b (by unfold frs;rw[List.filterMap_cons,hf];exact zrD _ hb)) hr⟩
 exact all X.outer (fun _ hb=>hb) I.ok.N5
theorem Inv.stack (I:Inv X pins σ H s):s.heap.FunFrames X.base X.stack:=by
 rcases I.ok.stk with e | ⟨e,hf⟩
 ·rw[e];exact I.N5
 ·rw[e]
  obtain⟨m,hn,_⟩:=I.loc
  refine .cons (by rw[I.ok.kind];decide) hf hn ?_ I.N5
  exact Heap.get?_none_of_le (zrO I.ok.bsz I.ok.above)
theorem Inv.zbJ (I:Inv X pins σ H s):∀b∈frs X.stack,b∈X.env.locals::X.fs:=fun b hb=>by
 rcases I.ok.stk with e | ⟨e,hf⟩
 ·rw[e] at hb;exact zrD _ hb
 ·rw[e] at hb
  unfold frs at hb
  rw[List.filterMap_cons,hf] at hb
  exact hb
theorem Inv.zfc (I:Inv X pins σ H s):∀b∈frs X.stack,H b=none:=fun b hb=>by
 rcases List.mem_cons.mp (I.zbJ b hb) with e | hb
 ·rw[e];exact I.free
 ·obtain⟨_,o,ho,_⟩:=I.ok.N5.mem hb
  exact I.base.free b o ho (I.ok.frf b hb) fun z=>I.ok.zf0 b z hb
theorem Inv.step {g':Array GenState}{t':Nat}{d':Drawn}{ch:List Addr}(I:Inv X pins σ H s)
  (hch:∀b∈ch,(b∈X.ex\/X.s₀.heap.objs.size<=b)/\b≠X.env.locals/\(∀x c,X.env.cells.lookup x=some c->c≠b)/\∀p∈X.pn++pins,p.1≠b)
  (keep:∀b o,b≠X.env.locals->b∉X.fs->b∉ch->s.heap.get? b=some o->H b=none->h'.get? b=some o)
  (slot:∀b o,b≠X.env.locals->b∈X.fs->b∉ch->s.heap.get? b=some o->H b=none->∃sl,h'.get? b=some { o with slots:=sl })(free:∀b o,b∉ch->s.heap.get? b=some o->H b=none->H' b=none)
  (there:∀b o,b∉ch->s.heap.get? b=some o->∃o',h'.get? b=some o')
  (tups:∀b xs,H b=some (.tup xs)->H' b=some (.tup xs))(zax:∀b o u,H b=some (.Ji o u)->H' b=some (.Ji o u))(zbH:∀b ps,H b=some (.tbl ps)->∃more,H' b=some (.tbl (ps++more)))
  (ns:∀m,s.heap.Ns X.env.locals m->h'.Ns X.env.locals m)(hok:S9 X.prog X.w H' h')(hg:AllBare g') :
  Inv X pins σ H' { s with heap:=h',gens:=g',drawn:=d',toks:=t' }:=by
 have neL:∀b o,X.s₀.heap.get? b=some o->b≠X.env.locals:=fun b o e=>zrH (zrB (zrz e) I.ok.above)
 have neC:∀b o,X.s₀.heap.get? b=some o->b∉X.ex->b∉ch:=fun b o e hx hb=>by
  rcases (hch b hb).1 with z | z
  ·exact hx z
  ·exact absurd (zrB (zrz e) z) (Nat.lt_irrefl _)
 have cellK:∀x c,X.env.cells.lookup x=some c->∀v,s.heap.IsCell c v->h'.IsCell c v:=fun x c e v ⟨o,ho,hd⟩=>by
  have nch:c∉ch:=fun z=>(hch c z).2.2.1 x c e rfl
  by_cases hc:c∈X.fs
  ·obtain⟨sl,q⟩:=slot c o (I.cne x c e) hc nch ho (I.Ut x c e)
   exact⟨_,q,hd⟩
  ·exact⟨o,keep c o (I.cne x c e) hc nch ho (I.Ut x c e),hd⟩
 refine⟨I.ok,I.os,hg,⟨fun b o e n hb hx=>?_,fun b o e n hb hx=>?_,fun b o e n hx=>?_,fun b o e hx=>?_,fun b xs e=>tups b xs (I.base.tups b xs e),fun b o xs e=>zax b o xs (I.base.zax b o xs e),fun b ps e=>?_⟩,?_,fun x c e=>?_,?_,fun x c e=>?_,fun p hp=>?_,hok,I.len⟩
 ·exact keep b o (neL b o e) hb (neC b o e hx) (I.base.keep b o e n hb hx) (I.base.free b o e n hx)
 ·obtain⟨sl,e1⟩:=I.base.slot b o e n hb hx
  obtain⟨sl',e2⟩:=slot b _ (neL b o e) hb (neC b o e hx) e1 (I.base.free b o e n hx)
  exact⟨sl',e2⟩
 ·obtain⟨o',e1⟩:=I.base.there b o e hx
  exact free b o' (neC b o e hx) e1 (I.base.free b o e n hx)
 ·obtain⟨o',e1⟩:=I.base.there b o e hx
  exact there b o' (neC b o e hx) e1
 ·obtain⟨m1,e1⟩:=I.base.zbH b ps e
  obtain⟨m2,e2⟩:=zbH b _ e1
  exact⟨m1++m2,by rw[e2,Array.append_assoc]⟩
 ·obtain⟨m,hn,hl⟩:=I.loc
  refine⟨m,ns m hn,fun i x v e1 e2 e3=>?_⟩
  obtain⟨u,r,l⟩:=hl i x v e1 e2 e3
  refine⟨u,r,?_⟩
  rcases l with l | ⟨k,c,e,z⟩
  ·exact .inl l
  ·exact .inr ⟨k,c,e,cellK x c e _ z⟩
 ·obtain⟨v,z⟩:=I.cell x c e
  exact⟨v,cellK x c e v z⟩
 ·obtain⟨m,⟨o,_,_,ho,_⟩,_⟩:=I.loc
  exact free _ o (fun z=>(hch _ z).2.1 rfl) ho I.free
 ·obtain⟨v,o,ho,hd⟩:=I.cell x c e
  exact free c o (fun z=>(hch c z).2.2.1 x c e rfl) ho (I.Ut x c e)
 ·obtain⟨e,n,ne,nf,d⟩:=I.pin p hp
  have nch:p.1∉ch:=fun z=>(hch p.1 z).2.2.2 p hp rfl
  exact⟨keep p.1 p.2 ne nf nch e n,free p.1 p.2 nch e n,ne,nf,d⟩
theorem Inv.un {t':Nat}(I:Inv X pins σ H s)(u:Un X.fs [] H H' s.heap h')(hok:S9 X.prog X.w H' h'):Inv X pins σ H' { s with heap:=h',toks:=t' }:=by
 obtain⟨m,⟨o,es,ep,ho,r⟩,_⟩:=id I.loc
 obtain⟨sl,hL⟩:=u.any ho I.free (by simp)
 exact I.step (g':=s.gens) (d':=s.drawn) (ch:=[]) (fun _ z=>nomatch z) (fun b o _ hb _ e n=>u.keep b o e n hb (by simp)) (fun b o _ hb _ e n=>u.slot b o e n hb (by simp)) (fun b o _ e n=>u.free b o e n (by simp)) (fun b o _ e=>u.there b o e (by simp)) u.tups u.zax u.zbH (fun m' hm=>by
  obtain⟨o',es',ep',ho',r'⟩:=hm
  rw[ho] at ho';cases ho'
  exact⟨_,es',ep',hL,r'⟩) hok I.bare
theorem Inv.call {g':Array GenState}{t':Nat}{d':Drawn}{ch:List Addr}(I:Inv X pins σ H s)(u:Un (frs X.stack) ch H H' s.heap h')(hok:S9 X.prog X.w H' h')(hg:AllBare g')
  (hch:∀b∈ch,(b∈X.ex\/X.s₀.heap.objs.size<=b)/\b≠X.env.locals/\(∀x c,X.env.cells.lookup x=some c->c≠b)/\∀p∈X.pn++pins,p.1≠b) :
  Inv X pins σ H' { s with heap:=h',gens:=g',drawn:=d',toks:=t' }:=by
 obtain⟨m,⟨o,es,ep,ho,r⟩,_⟩:=id I.loc
 obtain⟨sl,hL⟩:=u.any ho I.free fun z=>(hch _ z).2.1 rfl
 exact I.step (ch:=ch) hch (fun b o hL hb hc e n=>u.keep b o e n (fun z=>(List.mem_cons.mp (I.zbJ b z)).elim hL hb) hc) (fun b o _ _ hc e n=>u.any e n hc) (fun b o hc e n=>u.free b o e n hc) (fun b o hc e=>u.there b o e hc) u.tups u.zax u.zbH (fun m' hm=>by
  obtain⟨o',es',ep',ho',r'⟩:=hm
  rw[ho] at ho';cases ho'
  exact⟨_,es',ep',hL,r'⟩) hok hg
theorem Inv.turned {t':Nat}{it:Addr}(I:Inv X pins σ H s)(k:∀b o,b≠it->s.heap.get? b=some o->h'.get? b=some o)(hn:H it=none)(hL:it≠X.env.locals)
  (h1:it∈X.ex\/X.s₀.heap.objs.size<=it)(h2:∀x c,X.env.cells.lookup x=some c->c≠it)(h3:∀p∈X.pn++pins,p.1≠it):Inv X pins σ H { s with heap:=h',toks:=t' }:=by
 have nit:∀b u,H b=some u->b≠it:=fun b u e z=>by rw[z,hn] at e;cases e
 refine I.step (g':=s.gens) (d':=s.drawn) (ch:=[it]) (fun b hb=>?_) (fun b o _ _ hc e _=>k b o (fun z=>hc (by simp[z])) e) (fun b o _ _ hc e _=>⟨o.slots,k b o (fun z=>hc (by simp[z])) e⟩) (fun _ _ _ _ n=>n)
  (fun b o hc e=>⟨o,k b o (fun z=>hc (by simp[z])) e⟩) (fun _ _ e=>e) (fun _ _ _ e=>e) (fun b ps e=>⟨#[],by rw[e];simp⟩) (fun m hm=>?_) (fun b u e=>?_) I.bare
 ·have e:b=it:=by simpa using hb
  subst e
  exact⟨h1,hL,h2,h3⟩
 ·obtain⟨o,es,ep,ho,r⟩:=hm
  exact⟨o,es,ep,k _ o (Ne.symm hL) ho,r⟩
 ·refine(I.hok b u e).stay (fun c v hc q=>k c v ?_ q) (fun _ q=>q) fun _ _ q=>q
  rcases hc with z | z
  ·rw[z];exact nit b u e
  ·exact nit c _ z
theorem Inv.tok (I:Inv X pins σ H s)(t:Nat):Inv X pins σ H { s with toks:=t }:=I.un (h':=s.heap) (t':=t) Un.refl I.hok
theorem Inv.kept {t':Nat}(I:Inv X pins σ H s)(k:∀b u,s.heap.get? b=some u->h'.get? b=some u):Inv X pins σ H { s with heap:=h',toks:=t' }:=I.un (Un.kept k) (I.hok.kept k)
theorem Inv.laid {a:Addr}{o:HO}{t':Nat}(I:Inv X pins σ H s)(k:∀b u,s.heap.get? b=some u->h'.get? b=some u)(hp:s.heap.objs.size<=a)(new:wM X.prog X.w (upd H a o) h' a o) :
  Inv X pins σ (upd H a o) { s with heap:=h',toks:=t' }:=I.un (Un.laid k hp (I.hok.fresh hp)) (I.hok.laid k hp new)
theorem Inv.write {x e:Addr}{o:HO}{t':Nat}(I:Inv X pins σ H s)(mu:Mut (H x))(he:e=x\/H e=some (.own x))(k:∀b u,b≠e->s.heap.get? b=some u->h'.get? b=some u)(heo:∃u,h'.get? e=some u)
  (new:wM X.prog X.w (upd H x o) h' x o):Inv X pins σ (upd H x o) { s with heap:=h',toks:=t' }:=I.un (Un.write mu he k heo) (I.hok.write mu he k heo new)
theorem Inv.YJ {pins':List (Addr×Obj)}(I:Inv X pins σ H s)(h:∀p∈pins',s.heap.get? p.1=some p.2/\H p.1=none/\p.1≠X.env.locals/\p.1∉X.fs/\∀v,p.2.data≠.cell v):Inv X pins' σ H s :=
 ⟨I.ok,I.os,I.bare,I.base,I.loc,I.cell,I.free,I.Ut,fun p hp=>(List.mem_append.mp hp).elim (fun z=>I.pin p (List.mem_append_left _ z)) (h p),I.hok,I.len⟩
theorem zcY {N:List Str}(hN:N.Nodup){i j:Nat}{x:Str}(a:N[i]?=some x)(b:N[j]?=some x):i=j:=by
 obtain⟨h1,e1⟩:=zrv.mp a
 obtain⟨h2,e2⟩:=zrv.mp b
 exact(List.getElem_inj hN).mp (e1.trans e2.symm)
theorem zf1 {M:Model}{A:Around}{E:Value->Shared->Prop}{i:Nat}{x:Str}{v:V}{u:Value}{Q:Unit->Shared->Prop}(I:Inv X pins σ H s)(hN:X.N.Nodup)(hi:X.N[i]?=some x)(hx:Loc X.env.scope x)(r:RelV v u)
  (h:∀s',Inv X pins (σ.set i (some v)) H s'->(∃a,Heap.SameBut a s.heap s'.heap/\(a=X.env.locals\/X.env.cells.lookup x=some a))->Q () s')(hf:X.fn x=true\/X.env.scope.names.lookup x=some .local:=by first | exact .inl rfl | exact .inr rfl | assumption):wpAny M A (storeName X.env x u) Q E s:=by
 obtain⟨m,hn,hl⟩:=id I.loc
 have hcls:(X.env.scope.kind==.class||(X.env.scope.kind==.module&&X.env.locals != X.env.globals))=false:=by rw[I.ok.kind];rfl
 have hiσ:i < σ.length:=by rw[I.len];exact(zrv.mp hi).1
 have cne:=I.cne
 have tracked:∀{a:Addr} {h':Heap},(∃o,s.heap.get? a=some o/\H a=none)->Heap.SameBut a s.heap h'->S9 X.prog X.w H h':=fun {a h'} ha hs b ob e=>by
  obtain⟨_,_,hfree⟩:=ha
  refine(I.hok b ob e).stay (fun c w' hc q=>(hs.2 c ?_).trans q) (fun _ q=>q) fun _ _ q=>q
  rintro rfl
  rcases hc with rfl | hc
  ·rw[hfree] at e;cases e
  ·rw[hfree] at hc;cases hc
 rcases hx with hk | hk
 ·refine wpAny_storeName_local hk hn (fun h' hn' hs=>?_) hcls
  obtain⟨oL,_,_,hoL,_⟩:=id hn
  refine h _ ⟨I.ok,I.os,I.bare,⟨fun b o e n hb hx=>?_,fun b o e n hb hx=>?_,I.base.free,fun b o e hx=>?_,I.base.tups,I.base.zax,I.base.zbH⟩,⟨_,hn',fun j y v' e1 e2 e3=>?_⟩,fun y c e=>?_,I.free,I.Ut,fun p hp=>?_,tracked ⟨oL,hoL,I.free⟩ hs,by simpa using I.len⟩ ⟨_,hs,.inl rfl⟩
  ·exact(hs.2 b (zrH (zrB (zrz e) I.ok.above))).trans (I.base.keep b o e n hb hx)
  ·obtain⟨sl,e1⟩:=I.base.slot b o e n hb hx
   exact⟨sl,(hs.2 b (zrH (zrB (zrz e) I.ok.above))).trans e1⟩
  ·obtain⟨o',e1⟩:=I.base.there b o e hx
   exact⟨o',(hs.2 b (zrH (zrB (zrz e) I.ok.above))).trans e1⟩
  ·by_cases hj:j=i
   ·subst hj
    rw[hi] at e1;cases e1
    rw[List.getElem?_set_self hiσ] at e2
    cases e2
    exact⟨u,r,.inl ⟨hk,by simp⟩⟩
   ·rw[List.getElem?_set_ne (Ne.symm hj)] at e2
    obtain⟨u',r',q⟩:=hl j y v' e1 e2 e3
    refine⟨u',r',?_⟩
    rcases q with ⟨k,e⟩ | ⟨k,c,e,z⟩
    ·refine .inl ⟨k,?_⟩
     have:y≠x:=fun e=>hj (zcY hN e1 (e ▸ hi))
     simp[this,e]
    ·exact .inr ⟨k,c,e,z.sameBut hs (cne y c e)⟩
  ·obtain⟨w',z⟩:=I.cell y c e
   exact⟨w',z.sameBut hs (cne y c e)⟩
  ·obtain⟨e,n,ne,nf,d⟩:=I.pin p hp
   exact⟨(hs.2 p.1 ne).trans e,n,ne,nf,d⟩
 ·have hfn:X.fn x=true:=by
   rcases hf with z | z
   ·exact z
   ·rw[z] at hk;cases hk
  obtain⟨c,hc⟩:=I.ok.has x (.inl hk)
  obtain⟨w',z⟩:=I.cell x c hc
  refine wpAny_storeName_cell I.ok.kind hk hc z (fun h' hc' hs=>?_)
  obtain⟨oc,hoc,znt⟩:=id z
  refine h { s with heap:=h' } ⟨I.ok,I.os,I.bare,⟨fun b o e n hb hx=>?_,fun b o e n hb hx=>?_,I.base.free,fun b o e hx=>?_,I.base.tups,I.base.zax,I.base.zbH⟩,⟨m,hn.sameBut hs (Ne.symm (cne x c hc)),fun j y v' e1 e2 e3=>?_⟩,fun y c' e=>?_,I.free,I.Ut,fun p hp=>?_,tracked ⟨oc,hoc,I.Ut x c hc⟩ hs,by simpa using I.len⟩ ⟨c,hs,.inr hc⟩
  ·exact(hs.2 b (zrH (zrB (zrz e) (I.ok.cab x c hfn hc)))).trans (I.base.keep b o e n hb hx)
  ·obtain⟨sl,e1⟩:=I.base.slot b o e n hb hx
   exact⟨sl,(hs.2 b (zrH (zrB (zrz e) (I.ok.cab x c hfn hc)))).trans e1⟩
  ·obtain⟨o',e1⟩:=I.base.there b o e hx
   exact⟨o',(hs.2 b (zrH (zrB (zrz e) (I.ok.cab x c hfn hc)))).trans e1⟩
  ·by_cases hj:j=i
   ·subst hj
    rw[hi] at e1;cases e1
    rw[List.getElem?_set_self hiσ] at e2
    cases e2
    exact⟨u,r,.inr ⟨.inl hk,c,hc,hc'⟩⟩
   ·rw[List.getElem?_set_ne (Ne.symm hj)] at e2
    obtain⟨u',r',q⟩:=hl j y v' e1 e2 e3
    refine⟨u',r',?_⟩
    rcases q with q | ⟨k,c',e,z'⟩
    ·exact .inl q
    ·refine .inr ⟨k,c',e,z'.sameBut hs ?_⟩
     rintro rfl
     exact hj (zcY hN e1 (I.ok.inj _ _ _ e hc ▸ hi))
  ·by_cases hcc:c'=c
   ·subst hcc;exact⟨_,hc'⟩
   ·obtain⟨w2,z2⟩:=I.cell y c' e
    exact⟨w2,z2.sameBut hs hcc⟩
  ·obtain⟨e,n,ne,nf,d⟩:=I.pin p hp
   refine⟨(hs.2 p.1 ?_).trans e,n,ne,nf,d⟩
   intro q
   rw[q,hoc] at e
   have q':oc=p.2:=zrX e
   exact d w' (by rw[<-q'];exact znt)
theorem Jj {M:Model}{A:Around}{E:Value->Shared->Prop}{i:Nat}{x:Str}{v:V}{u:Value}{Q:Unit->Shared->Prop}(I:Inv X pins σ H s)(hN:X.N.Nodup)(hi:X.N[i]?=some x)(hx:Loc X.env.scope x)(r:RelV v u)
  (h:∀s',Inv X pins (σ.set i (some v)) H s'->Q () s')(hf:X.fn x=true\/X.env.scope.names.lookup x=some .local:=by first | exact .inl rfl | exact .inr rfl | assumption):wpAny M A (storeName X.env x u) Q E s :=
 zf1 I hN hi hx r (fun s' I' _=>h s' I') hf
theorem Inv.call' {s':Shared}{ch:List Addr}(I:Inv X pins σ H s)(ho:s'.os=s.os)(u:Un (frs X.stack) ch H H' s.heap s'.heap)(hok:S9 X.prog X.w H' s'.heap)(hg:AllBare s'.gens)
  (hch:∀b∈ch,(b∈X.ex\/X.s₀.heap.objs.size<=b)/\b≠X.env.locals/\(∀x c,X.env.cells.lookup x=some c->c≠b)/\∀p∈X.pn++pins,p.1≠b):Inv X pins σ H' s':=by
 obtain⟨h',g',d',t',o'⟩:=s'
 have e:o'=s.os:=ho
 subst e
 exact I.call (g':=g') (t':=t') (d':=d') u hok hg hch
end
abbrev XK:=Value->Option Addr->Hp->Prop
abbrev St:=List (Option V)
abbrev VK:=V->Hp->Prop
abbrev TE:=St->Hp->VK->Prop
abbrev TT:=St->Hp->(Bool->Hp->Prop)->Prop
abbrev TA:=St->Hp->(List V->Hp->Prop)->Prop
structure Ends where
 nx:St->Hp->Prop
 rt:VK
 bk:St->Hp->Prop:=fun _ _=>False
 ct:St->Hp->Prop:=fun _ _=>False
abbrev TS:=Ends->St->Hp->Prop
def EP (X:Cx)(pins:List (Addr×Obj))(σ:St)(Q:VK)(u:Value)(s':Shared):Prop:=∃v H',Inv X pins σ H' s'/\RelV v u/\Q v H'
def TP (X:Cx)(pins:List (Addr×Obj))(σ:St)(Q:Bool->Hp->Prop)(b:Bool)(s':Shared):Prop:=∃H',Inv X pins σ H' s'/\Q b H'
def AP (X:Cx)(pins:List (Addr×Obj))(σ:St)(Q:List V->Hp->Prop)(us:List Value)(s':Shared):Prop:=∃vs H',Inv X pins σ H' s'/\Vals vs us/\Q vs H'
def SP (X:Cx)(pins:List (Addr×Obj))(D:Ends)(f:Flow)(s':Shared):Prop :=
 match f with
 | .next=>∃ σ' H',Inv X pins σ' H' s'/\D.nx σ' H'
 | .brk=>∃ σ' H',Inv X pins σ' H' s'/\D.bk σ' H'
 | .cont=>∃ σ' H',Inv X pins σ' H' s'/\D.ct σ' H'
 | .ret u=>∃v σ' H',Inv X pins σ' H' s'/\RelV v u/\D.rt v H'
def PE (X:Cx)(e:Expr)(t:TE):Prop :=
 ∀(pins:List (Addr×Obj)) (s:Shared) (σ:St) (H:Hp) (Q:VK),Inv X pins σ H s->t σ H Q->wpAny (model X.prog X.w) X.A (eval e X.env) (EP X pins σ Q) X.xe s
def PT (X:Cx)(e:Expr)(t:TT):Prop :=
 ∀(pins:List (Addr×Obj)) (s:Shared) (σ:St) (H:Hp) (Q:Bool->Hp->Prop),Inv X pins σ H s->t σ H Q->wpAny (model X.prog X.w) X.A (isTrue e X.env (eval e X.env)) (TP X pins σ Q) X.xe s
def PW (X:Cx)(e:Expr)(t:TT):Prop :=
 ∀(whole:Sem Value) (pins:List (Addr×Obj)) (s:Shared) (σ:St) (H:Hp) (Q:Bool->Hp->Prop),Inv X pins σ H s->t σ H Q->wpAny (model X.prog X.w) X.A (isTrue e X.env whole) (TP X pins σ Q) X.xe s
theorem PW.pt {X:Cx}{e:Expr}{t:TT}(h:PW X e t):PT X e t:=h _
def PA (X:Cx)(es:List Expr)(t:TA):Prop :=
 ∀(pos:Pos) (pins:List (Addr×Obj)) (s:Shared) (σ:St) (H:Hp) (Q:List V->Hp->Prop),Inv X pins σ H s->t σ H Q->wpAny (model X.prog X.w) X.A (spliced (backTo pos (starEach es X.env))) (AP X pins σ Q) X.xe s
def PS (X:Cx)(st:Stmt)(t:TS):Prop :=
 ∀(pins:List (Addr×Obj)) (s:Shared) (σ:St) (H:Hp) (D:Ends),Inv X pins σ H s->t D σ H->wpAny (model X.prog X.w) X.A (exec st X.env) (SP X pins D) X.xe s
def PSs (X:Cx)(st:List Stmt)(t:TS):Prop :=
 ∀(pins:List (Addr×Obj)) (s:Shared) (σ:St) (H:Hp) (D:Ends),Inv X pins σ H s->t D σ H->wpAny (model X.prog X.w) X.A (execs st X.env) (SP X pins D) X.xe s
theorem wQ {α:Type}{t:Sem α}{Q Q':α->Shared->Prop}{M:Model}{A:Around}{E:Value->Shared->Prop}{s:Shared}(h:wpAny M A t Q E s)(hQ:∀a s,Q a s->Q' a s):wpAny M A t Q' E s:=wpAny_mono h hQ fun _ _ x=>x
section
variable {X:Cx}
theorem bin {a b:Expr}{ta tb:TE}(ha:PE X a ta)(hb:PE X b tb){pins:List (Addr×Obj)}{s:Shared}{σ:St}{H:Hp}{R:V->V->Hp->Prop}(I:Inv X pins σ H s)(h:ta σ H fun x H1=>tb σ H1 fun y H2=>R x y H2)
  {α:Type}{Q:α->Shared->Prop}{f:Value->Value->Sem α}
  (hf:∀v u s2 x y H2,Inv X pins σ H2 s2->RelV x v->RelV y u->R x y H2->wpAny (model X.prog X.w) X.A (f v u) Q X.xe s2) :
  wpAny (model X.prog X.w) X.A (eval a X.env) (fun v s₁=>wpAny (model X.prog X.w) X.A (eval b X.env) (fun u s₂=>wpAny (model X.prog X.w) X.A (f v u) Q X.xe s₂) X.xe s₁) X.xe s:=by
 refine wQ (ha pins s σ H _ I h) fun v s1 ⟨x,H1,I1,r1,q1⟩=>?_
 refine wQ (hb pins s1 σ H1 _ I1 q1) fun u s2 ⟨y,H2,I2,r2,q2⟩=>?_
 exact hf v u s2 x y H2 I2 r1 r2 q2
inductive Jk (i:Nat)(σ:St)(H:Hp)(Q:V->Hp->Prop):Prop
 | mk (v:V) (_:σ[i]?=some (some v)) (_:Q v H):Jk i σ H Q
def tC (v:V):TE:=fun _ H Q=>Q v H
theorem zko {i:Nat}{x:Str}{pos:Pos}(hN:X.N[i]?=some x)(hv:Vis X.env.scope x)(hd:(x==("__debug__" : Str))=false:=by decide)(hcd:(x==("__classdict__" : Str))=false:=by decide):PE X (.Name x pos) (Jk i):=by
 intro pins s σ H Q I h
 obtain⟨v,e,h⟩:=h
 obtain⟨m,hn,hl⟩:=I.loc
 obtain⟨u,r,l⟩:=hl i x v hN e hv
 have fin:EP X pins σ Q u s:=⟨v,H,I,r,h⟩
 rcases l with ⟨hk,hm⟩ | ⟨hk,c,hc,hcell⟩
 ·exact wpAny_Name (wpAny_loadName_local I.ok.kind hk hn hm fin) hd
 ·rcases hk with hk | hk
  ·exact wpAny_Name (wpAny_loadName_cell I.ok.kind hk hc hcell fin) hd
  ·exact wpAny_Name (wpAny_loadName_free I.ok.kind hk hc hcell fin hcd) hd
theorem zq {i j pos}:PE X (.Constant (.int i) j pos) (tC (.int i)):=fun _ _ _ H _ I h=>wpAny_Constant_int ⟨.int i,H,I.tok _,⟨_,rfl⟩,h⟩
theorem Ri {b j pos}:PE X (.Constant (.bool b) j pos) (tC (.bl b)):=fun _ _ _ H _ I h=>Constant_bool ⟨.bl b,H,I,rfl,h⟩
theorem zkp {j pos}:PE X (.Constant .none j pos) (tC .non):=fun _ _ _ H _ I h=>Constant_none ⟨.non,H,I,rfl,h⟩
theorem yM {x j pos}:PE X (.Constant (.str x) j pos) (tC (.str x)):=fun _ _ _ H _ I h=>Calls.Constant_str ⟨.str x,H,I.tok _,⟨_,rfl⟩,h⟩
def Gl (X:Cx)(x:Str):Prop:=X.env.kindOf x=some .globalImplicit
theorem zbL {E:Value->Shared->Prop}{pins:List (Addr×Obj)}{s:Shared}{σ:St}{H:Hp}{x:Str}{u:Value}{pos:Pos}{Q:Value->Shared->Prop}(I:Inv X pins σ H s)(hg:Gl X x)(hm:X.mg x=some u)(h:Q u s)
  (hd:(x==("__debug__" : Str))=false:=by decide):wpAny (model X.prog X.w) X.A (eval (.Name x pos) X.env) Q E s :=
 Calls.Name_function_global I.ok.kind hg (Calls.loadGlobal_global (by rw[I.ok.glob];exact I.mod.glob.keeps I.bk) hm h) hd
theorem Ws {E:Value->Shared->Prop}{pins:List (Addr×Obj)}{s:Shared}{σ:St}{H:Hp}{x:Str}{u:Value}{pos:Pos}{Q:Value->Shared->Prop}(I:Inv X pins σ H s)(hg:Gl X x)(hm:X.mg x=none)(hv:bootBuiltins x=some u)(h:Q u s)
  (hn:x ≠ "__name__" := by decide)(hd:(x==("__debug__" : Str))=false:=by decide):wpAny (model X.prog X.w) X.A (eval (.Name x pos) X.env) Q E s:=by
 obtain⟨mb,h1,h2⟩:=I.mod.blt
 exact Calls.Name_function_global I.ok.kind hg (Calls.loadGlobal_builtin (by rw[I.ok.glob];exact I.mod.glob.keeps I.bk) hm (by rw[I.ok.blt];exact h1.keeps I.bk) ((h2 x hn).trans hv) h) hd
theorem XM {x:Str}{v:V}{u:Value}{pos:Pos}(hg:Gl X x)(hm:X.mg x=some u)(r:RelV v u)(hd:(x==("__debug__" : Str))=false:=by decide):PE X (.Name x pos) (tC v) :=
 fun _ _ _ H _ I h=>zbL I hg hm ⟨v,H,I,r,h⟩ hd
theorem zfd {x:Str}{v:V}{u:Value}{pos:Pos}(hg:Gl X x)(hm:X.mg x=none)(hv:bootBuiltins x=some u)(r:RelV v u)(hn:x ≠ "__name__" := by decide)(hd:(x==("__debug__" : Str))=false:=by decide):PE X (.Name x pos) (tC v) :=
 fun _ _ _ H _ I h=>Ws I hg hm hv ⟨v,H,I,r,h⟩ hn hd
variable {a b:Expr}{ta tb:TE}{pos:Pos}
def PC (X:Cx)(op:CmpOp)(a b:Expr)(t:TE):Prop :=
 ∀(pins:List (Addr×Obj)) (s:Shared) (σ:St) (H:Hp) (Q:VK),Inv X pins σ H s->t σ H Q ->
  wpAny (model X.prog X.w) X.A (eval a X.env) (fun v s₁=>wpAny (model X.prog X.w) X.A (eval b X.env) (fun u s₂=>wpAny (model X.prog X.w) X.A (compareOp op v u) (EP X pins σ Q) X.xe s₂) X.xe s₁) X.xe s
def tB (t:TE):TT:=fun σ H Q=>t σ H fun x H1=>∃c,x=.bl c/\Q c H1
theorem zgN {op:CmpOp}{t:TE}(h:PC X op a b t)(h1:behindInMarks op b=false:=by first | exact zlI _ (by decide) (by decide) | rfl):PT X (.Compare a [op] [b] pos) (tB t):=by
 intro pins s σ H Q I hw
 refine wpAny_isTrue_Compare1 (wQ (h pins s σ H _ I hw) fun v s1 h1=>wQ h1 fun u s2 h2=>wQ h2 fun c s3 ⟨x,H1,I1,r1,q1⟩=>?_) h1
 obtain⟨d,rfl,q⟩:=q1
 cases r1
 exact wpAny_truthy_bool ⟨H1,I1,q⟩
variable {tA tB':TT}{rest:List Expr}
def znu (t u:TT):TT:=fun σ H Q=>t σ H fun c H1=>if c=true then u σ H1 Q else Q false H1
def tOr (t u:TT):TT:=fun σ H Q=>t σ H fun c H1=>if c=true then Q true H1 else u σ H1 Q
def znv (t:TT):TT:=fun σ H Q=>t σ H fun c H1=>Q (!c) H1
theorem ziq (ha:PT X a tA):PW X (.BoolOp .And [a] pos) tA:=by
 intro wh pins s σ H Q I h
 refine isTrue_and (wQ (ha pins s σ H Q I h) fun c s1 e=>?_)
 cases c with
 | true=>exact isTrue_and_nil e
 | false=>exact e
theorem N7 (ha:PT X a tA):PW X (.BoolOp .Or [a] pos) tA:=by
 intro wh pins s σ H Q I h
 refine isTrue_or (wQ (ha pins s σ H Q I h) fun c s1 e=>?_)
 cases c with
 | false=>exact isTrue_or_nil e
 | true=>exact e
theorem zkq (ha:PT X a tA)(hb:PW X (.BoolOp .And (b::rest) pos) tB'):PW X (.BoolOp .And (a::b::rest) pos) (znu tA tB'):=by
 intro wh pins s σ H Q I h
 refine isTrue_and (wQ (ha pins s σ H _ I h) fun c s1 ⟨H1,I1,q1⟩=>?_)
 cases c with
 | true=>exact hb wh pins s1 σ H1 Q I1 q1
 | false=>exact⟨H1,I1,q1⟩
theorem Jl (ha:PT X a tA)(hb:PW X (.BoolOp .Or (b::rest) pos) tB'):PW X (.BoolOp .Or (a::b::rest) pos) (tOr tA tB'):=by
 intro wh pins s σ H Q I h
 refine isTrue_or (wQ (ha pins s σ H _ I h) fun c s1 ⟨H1,I1,q1⟩=>?_)
 cases c with
 | true=>exact⟨H1,I1,q1⟩
 | false=>exact hb wh pins s1 σ H1 Q I1 q1
theorem Uu (ha:PT X a tA):PT X (.UnaryOp .Not a pos) (znv tA):=by
 intro pins s σ H Q I h
 exact isTrue_not (ha pins s σ H (fun c H1=>Q (!c) H1) I h)
def zlJ (ta tb:TE):TE:=fun σ H Q=>ta σ H fun x H1=>∃c,x=.bl c/\if c=true then tb σ H1 Q else Q (.bl false) H1
def zlK (ta:TE):TE:=fun σ H Q=>ta σ H fun x H1=>∃c,x=.bl c/\Q (.bl (!c)) H1
theorem zee {op}{t:TE}(h:PE X a t):PE X (.BoolOp op [a] pos) t:=fun pins s σ H Q I hw=>BoolOp_one (h pins s σ H Q I hw)
theorem zbM (ha:PE X a ta)(hb:PE X (.BoolOp .And (b::rest) pos) tb):PE X (.BoolOp .And (a::b::rest) pos) (zlJ ta tb):=by
 intro pins s σ H Q I h
 refine BoolOp_and (wQ (ha pins s σ H _ I h) fun v s1 ⟨x,H1,I1,r1,q1⟩=>?_)
 obtain⟨c,rfl,q1⟩:=q1
 cases r1
 refine wpAny_truthy_bool ?_
 cases c with
 | true=>exact hb pins s1 σ H1 Q I1 q1
 | false=>exact⟨.bl false,H1,I1,rfl,q1⟩
theorem zkr (ha:PE X a ta):PE X (.UnaryOp .Not a pos) (zlK ta):=by
 intro pins s σ H Q I h
 refine UnaryOp_ (wQ (ha pins s σ H _ I h) fun v s1 ⟨x,H1,I1,r1,q1⟩=>?_)
 obtain⟨c,rfl,q1⟩:=q1
 cases r1
 exact not_of (wpAny_truthy_bool ⟨.bl (!c),H1,I1,rfl,q1⟩)
def tIf (t:TT)(ta tb:TE):TE:=fun σ H Q=>t σ H fun c H1=>if c=true then ta σ H1 Q else tb σ H1 Q
theorem Jm {c:Expr}(hc:PT X c tA)(ha:PE X a ta)(hb:PE X b tb):PE X (.IfExp c a b pos) (tIf tA ta tb):=by
 intro pins s σ H Q I h
 refine wpAny_IfExp (wQ (hc pins s σ H _ I h) fun d s1 ⟨H1,I1,q1⟩=>?_)
 cases d with
 | true=>exact ha pins s1 σ H1 Q I1 q1
 | false=>exact hb pins s1 σ H1 Q I1 q1
end
def zX (K:Frag)(H:Hp)(a:Addr)(xs:List V):Prop :=
 Rd H a (.lst xs) \/
  ∃(o:Obj) (its:Array Value) (n:Nat),K.lookup a=some o/\o.cls=.type "list" /\ o.dict=none/\o.data=.seq its n/\its.size<=sizeLine/\Vals xs its.toList
def vp (K:Frag)(H:Hp)(a:Addr)(xs:List V):Prop :=
 Rd H a (.tup xs) \/
  ∃(o:Obj) (its:Array Value) (n:Nat),K.lookup a=some o/\o.cls=.type "tuple" /\ o.data=.seq its n/\its.size<=sizeLine/\Vals xs its.toList
def zef:Value->Option V
 | .none=>some .non
 | .bool b=>some (.bl b)
 | .int i _=>some (.int i)
 | .str x _=>some (.str x)
 | .bytes b _=>some (.byt b)
 | .float b _=>some (.flt b)
 | .ref a=>some (.ref a)
 | .type n=>some (.ty n)
 | _=>none
theorem RelV.abs {x:V}{u:Value}(r:RelV x u):zef u=some x:=by
 cases x with
 | non=>cases r;rfl
 | bl _=>cases r;rfl
 | int _=>obtain⟨t,rfl⟩:=r;rfl
 | str _=>obtain⟨t,rfl⟩:=r;rfl
 | byt _=>obtain⟨t,rfl⟩:=r;rfl
 | flt _=>obtain⟨t,rfl⟩:=r;rfl
 | ref _=>cases r;rfl
 | ty _=>cases r;rfl
theorem RelV.inj {x y:V}{u:Value}(r:RelV x u)(q:RelV y u):x=y:=zrX (r.abs.symm.trans q.abs)
theorem Vals.inj:∀{xs ys:List V} {us:List Value},Vals xs us->Vals ys us->xs=ys
 | _,_,_,.nil,.nil=>rfl
 | _,_,_,.cons r t,.cons r' t'=>by rw[r.inj r',Vals.inj t t']
section
variable {X:Cx}{pins:List (Addr×Obj)}{σ:St}{H:Hp}{s:Shared}{a:Addr}{xs ys:List V}
theorem zX.of {K:Frag}(h:H a=some (.lst xs)):zX K H a xs:=.inl (.inl h)
theorem vp.of {K:Frag}(h:H a=some (.tup xs)):vp K H a xs:=.inl (.inl h)
theorem Inv.list (I:Inv X pins σ H s)(h:zX X.K H a xs):∃its:List Value,Vals xs its/\PlainL s.heap a its.toArray/\xs.length<=sizeLine:=by
 rcases h with h | ⟨o,its,n,hk,hc,hd,hs,hz,r⟩
 ·obtain⟨z,its,n,r,e⟩:=h.ok I.hok
  exact⟨its,r,⟨_,n,e,rfl,rfl,rfl⟩,z⟩
 ·refine⟨its.toList,r,⟨o,n,I.N6 a o hk,hc,hd,by simpa using hs⟩,?_⟩
  have e:=r.length
  simp only[Array.length_toList] at e
  omega
theorem Inv.tuple (I:Inv X pins σ H s)(h:vp X.K H a xs):∃its:List Value,Vals xs its/\IsTup s.heap a its.toArray/\xs.length<=sizeLine:=by
 rcases h with h | ⟨o,its,n,hk,hc,hs,hz,r⟩
 ·obtain⟨z,its,r,p⟩:=h.ok I.hok
  exact⟨its,r,p,z⟩
 ·refine⟨its.toList,r,⟨o,I.N6 a o hk,hc,n,by simpa using hs⟩,?_⟩
  have e:=r.length
  simp only[Array.length_toList] at e
  omega
theorem Inv.WY (I:Inv X pins σ H s)(h:zX X.K H a xs)(h':zX X.K H a ys):xs=ys:=by
 obtain⟨its,r,⟨o,n,e,_,_,d⟩,_⟩:=I.list h
 obtain⟨its',r',⟨o',n',e',_,_,d'⟩,_⟩:=I.list h'
 rw[e] at e';cases e'
 rw[d] at d'
 injection d' with d1 _
 have:its=its':=by simpa using congrArg Array.toList d1
 subst this
 exact r.inj r'
theorem Inv.za0 (I:Inv X pins σ H s)(h:vp X.K H a xs)(h':vp X.K H a ys):xs=ys:=by
 obtain⟨its,r,⟨o,e,_,n,d⟩,_⟩:=I.tuple h
 obtain⟨its',r',⟨o',e',_,n',d'⟩,_⟩:=I.tuple h'
 rw[e] at e';cases e'
 rw[d] at d'
 injection d' with d1 _
 have:its=its':=by simpa using congrArg Array.toList d1
 subst this
 exact r.inj r'
end
abbrev Cx.wish (X:Cx)(E:Value->Shared->Prop):Cx:={ X with xe:=E }
abbrev Cx.nox (X:Cx):Cx:=X.wish fun _ _=>False
theorem Cx.Ok.wish {X:Cx}(ok:X.Ok)(E:Value->Shared->Prop):(X.wish E).Ok :=
 ⟨ok.mod,ok.kind,ok.glob,ok.blt,ok.above,ok.inj,ok.has,ok.cab,ok.hd,ok.frames,ok.stk,ok.exf,ok.bs,ok.bsz,ok.zfZ,ok.zf0,ok.N5,ok.frf⟩
theorem Cx.Ok.Uv {X:Cx}{E:Value->Shared->Prop}(ok:(X.wish E).Ok):X.Ok :=
 ⟨ok.mod,ok.kind,ok.glob,ok.blt,ok.above,ok.inj,ok.has,ok.cab,ok.hd,ok.frames,ok.stk,ok.exf,ok.bs,ok.bsz,ok.zfZ,ok.zf0,ok.N5,ok.frf⟩
section
variable {X:Cx}{pins:List (Addr×Obj)}{σ:St}{H:Hp}{s:Shared}{E:Value->Shared->Prop}
theorem Inv.wish (I:Inv X pins σ H s)(E:Value->Shared->Prop):Inv (X.wish E) pins σ H s:=⟨I.ok.wish E,I.os,I.bare,I.base,I.loc,I.cell,I.free,I.Ut,I.pin,I.hok,I.len⟩
theorem Inv.Uv (I:Inv (X.wish E) pins σ H s):Inv X pins σ H s:=⟨I.ok.Uv,I.os,I.bare,I.base,I.loc,I.cell,I.free,I.Ut,I.pin,I.hok,I.len⟩
theorem SP.Uv {D:Ends}{f:Flow}{s':Shared}(h:SP (X.wish E) pins D f s'):SP X pins D f s':=by
 cases f with
 | next=>obtain⟨σ',H',I,q⟩:=h;exact⟨σ',H',I.Uv,q⟩
 | brk=>obtain⟨σ',H',I,q⟩:=h;exact⟨σ',H',I.Uv,q⟩
 | cont=>obtain⟨σ',H',I,q⟩:=h;exact⟨σ',H',I.Uv,q⟩
 | ret u=>obtain⟨v,σ',H',I,r,q⟩:=h;exact⟨v,σ',H',I.Uv,r,q⟩
theorem PSs.nox {st:List Stmt}{t:TS}(h:PSs X.nox st t):PSs X st t:=fun pins s σ H D I hw =>
 wpAny_mono (h pins s σ H D (I.wish _) hw) (fun _ _ q=>q.Uv) fun _ _ z=>False.elim z
end
section
variable {X:Cx}{st:Stmt}{rest:List Stmt}{t u:TS}{e:Expr}{te:TE}{pos:Pos}
def zlL:TS:=fun D σ H=>D.nx σ H
def zlM (t u:TS):TS:=fun D σ H=>t { D with nx:=u D } σ H
theorem z8:PSs X [] zlL:=fun _ _ σ H _ I h=>wpAny_execs_nil ⟨σ,H,I,h⟩
theorem zf (h1:PS X st t)(h2:PSs X rest u):PSs X (st::rest) (zlM t u):=by
 intro pins s σ H D I h
 refine wpAny_execs_cons (wQ (h1 pins s σ H { D with nx:=u D } I h) fun f s1 q=>?_)
 cases f with
 | next =>
  obtain⟨σ',H',I',q⟩:=q
  exact h2 pins s1 σ' H' D I' q
 | ret v=>exact q
 | brk=>exact q
 | cont=>exact q
theorem zm (h1:PS X st t):PSs X [st] t:=by
 intro pins s σ H D I h
 refine wpAny_execs_cons (wQ (h1 pins s σ H D I h) fun f s1 q=>?_)
 cases f with
 | next=>exact wpAny_execs_nil q
 | ret v=>exact q
 | brk=>exact q
 | cont=>exact q
theorem Inv.quiet {pins:List (Addr×Obj)}{σ:St}{H:Hp}{s:Shared}(I:Inv X pins σ H s):interactive X.env=false:=by simp[interactive,I.ok.kind]
def zlN (te:TE):TS:=fun D σ H=>te σ H fun _ H1=>D.nx σ H1
theorem z7 (he:PE X e te)(hs:swapsWith e none pos.line X.env=pure false:=by rfl):PS X (.Expr e pos) (zlN te):=by
 intro pins s σ H D I h
 exact wpAny_Expr_any (wQ (he pins s σ H _ I h) fun v s1 ⟨x,H1,I1,r1,q1⟩=>⟨σ,H1,I1,q1⟩) I.quiet hs
def znw (te:TE):TS:=fun D σ H=>te σ H D.rt
theorem zF (he:PE X e te):PS X (.Return (some e) pos) (znw te):=by
 intro pins s σ H D I h
 exact wpAny_Return_some (wQ (he pins s σ H _ I h) fun v s1 ⟨x,H1,I1,r1,q1⟩=>⟨x,σ,H1,I1,r1,q1⟩)
def znx (c:TT)(t u:TS):TS:=fun D σ H=>c σ H fun b H1=>if b=true then t D σ H1 else u D σ H1
theorem yC {c:Expr}{a b:List Stmt}{tc:TT}(hc:PT X c tc)(ha:PSs X a t)(hb:PSs X b u):PS X (.If c a b pos) (znx tc t u):=by
 intro pins s σ H D I h
 refine wpAny_If (wQ (hc pins s σ H _ I h) fun d s1 ⟨H1,I1,q1⟩=>?_)
 cases d with
 | true=>exact ha pins s1 σ H1 D I1 q1
 | false=>exact hb pins s1 σ H1 D I1 q1
def zks:TS:=fun _ _ _=>False
theorem Uw:PS X st zks:=fun _ _ _ _ _ _ h=>h.elim
end
abbrev TG:=V->St->Hp->(St->Hp->Prop)->Prop
abbrev TGs:=List V->St->Hp->(St->Hp->Prop)->Prop
def PG (X:Cx)(target:Expr)(t:TG):Prop :=
 ∀(pins:List (Addr×Obj)) (s:Shared) (σ:St) (H:Hp) (v:V) (u:Value) (Q:St->Hp->Prop),Inv X pins σ H s->RelV v u->t v σ H Q ->
  wpAny (model X.prog X.w) X.A (assign target X.env u) (fun _ s'=>∃ σ' H',Inv X pins σ' H' s'/\Q σ' H') X.xe s
def PGs (X:Cx)(ts:List Expr)(t:TGs):Prop :=
 ∀(pins:List (Addr×Obj)) (s:Shared) (σ:St) (H:Hp) (vs:List V) (us:List Value) (Q:St->Hp->Prop),Inv X pins σ H s->Vals vs us->t vs σ H Q ->
  wpAny (model X.prog X.w) X.A (assignInOrder ((assignEach ts X.env).map (·.2)) us) (fun _ s'=>∃ σ' H',Inv X pins σ' H' s'/\Q σ' H') X.xe s
abbrev TIp:=V->V->Hp->VK->Prop
def PIp (X:Cx)(op:Operator)(t:TIp):Prop :=
 ∀(pins:List (Addr×Obj)) (s:Shared) (σ:St) (H:Hp) (x y:V) (v u:Value) (Q:VK),Inv X pins σ H s->RelV x v->RelV y u->t x y H Q ->
  wpAny (model X.prog X.w) X.A (inplaceOp op v u) (EP X pins σ Q) X.xe s
section
variable {X:Cx}{pos:Pos}
def XQ (i:Nat):TG:=fun v σ H Q=>Q (σ.set i (some v)) H
theorem yU {i:Nat}{x:Str}(hN:X.N.Nodup)(hi:X.N[i]?=some x)(hx:Loc X.env.scope x)(hf:X.fn x=true\/X.env.scope.names.lookup x=some .local:=by first | exact .inl rfl | exact .inr rfl | assumption):PG X (.Name x pos) (XQ i):=by
 intro pins s σ H v u Q I r h
 exact wpAny_assign_Name (Jj I hN hi hx r (fun s' I'=>⟨_,H,I',h⟩) hf)
def zgO:TGs:=fun vs σ H Q=>vs=[]/\Q σ H
def Qv (t:TG)(u:TGs):TGs:=fun vs σ H Q=>∃v r,vs=v::r/\t v σ H fun σ' H'=>u r σ' H' Q
theorem zfe:PGs X [] zgO:=by
 intro pins s σ H vs us Q I r h
 obtain⟨e,h⟩:=h
 subst e
 cases r
 exact assignInOrder_nil ⟨σ,H,I,h⟩
theorem Qw {e:Expr}{es:List Expr}{t:TG}{u:TGs}(h1:PG X e t)(h2:PGs X es u)
  (hs:(assignEach (e::es) X.env).map (·.2)=assign e X.env::(assignEach es X.env).map (·.2):=by rfl):PGs X (e::es) (Qv t u):=by
 intro pins s σ H vs us Q I r h
 obtain⟨v,vr,e1,h⟩:=h
 subst e1
 cases r with
 | cons r rr =>
  rw[hs]
  refine assignInOrder_cons (wQ (h1 pins s σ H _ _ _ I r h) fun _ s1 ⟨σ1,H1,I1,q1⟩=>?_)
  exact h2 pins s1 σ1 H1 _ _ Q I1 rr q1
def zgP (K:Frag)(n:Nat)(t:TGs):TG:=fun v σ H Q=>∃a xs,v=.ref a/\vp K H a xs/\xs.length=n/\t xs σ H Q
theorem zgQ {es:List Expr}{k:Nat}{t:TGs}{n:Nat}(hc:X.calm=true)(h:PGs X es t)
  (hn:(assignEach es X.env).length=n:=by rfl)(hst:(assignEach es X.env).findIdx? (·.1)=none:=by rfl):PG X (.Tuple es k pos) (zgP X.K n t):=by
 intro pins s σ H v u Q I r hw
 obtain⟨a,xs,e1,hq,hl,hw⟩:=hw
 subst e1
 cases r
 obtain⟨its,rv,ht,hz⟩:=I.tuple hq
 refine assign_Tuple_tuple (I.ok.hd hc) ht (by simp[hn,<-hl,rv.length]) hst fun h' hx=>?_
 have I1:Inv X pins σ H { s with heap:=h' }:=I.kept (t':=s.toks) fun b o e=>hx b o (zrH (zrz e)) e
 exact h pins _ σ H xs _ Q I1 (by simpa using rv) hw
def zku (te:TE)(g:TG):TS:=fun D σ H=>te σ H fun x H1=>g x σ H1 D.nx
theorem RB {i:Nat}{x:Str}{e:Expr}{te:TE}{pos':Pos}(hN:X.N.Nodup)(hi:X.N[i]?=some x)(hx:Loc X.env.scope x)(he:PE X e te)(hs:swapsWith e (some (.Name x pos')) pos.line X.env=pure false:=by rfl)(hf:X.fn x=true\/X.env.scope.names.lookup x=some .local:=by first | exact .inl rfl | exact .inr rfl | assumption) :
  PS X (.Assign [.Name x pos'] e pos) (zku te (XQ i)):=by
 intro pins s σ H D I h
 refine wpAny_Assign_Name (wQ (he pins s σ H _ I h) fun v s1 ⟨y,H1,I1,r1,q1⟩=>?_) hs
 exact Jj I1 hN hi hx r1 (fun s2 I2=>⟨_,H1,I2,q1⟩) hf
def znz (i:Nat)(te:TE)(ti:TIp):TS:=fun D σ H=>∃x,σ[i]?=some (some x)/\te σ H fun y H1=>ti x y H1 fun z H2=>D.nx (σ.set i (some z)) H2
theorem zeg {i:Nat}{x:Str}{e:Expr}{te:TE}{op:Operator}{ti:TIp}{pos':Pos}(hN:X.N.Nodup)(hi:X.N[i]?=some x)(hx:Loc X.env.scope x)(he:PE X e te)(ho:PIp X op ti)(hf:X.fn x=true\/X.env.scope.names.lookup x=some .local:=by first | exact .inl rfl | exact .inr rfl | assumption) :
  PS X (.AugAssign (.Name x pos') op e pos) (znz i te ti):=by
 intro pins s σ H D I h
 obtain⟨v,e1,h⟩:=h
 obtain⟨m,hn,hl⟩:=I.loc
 have vis:Vis X.env.scope x:=by rcases hx with k | k;exact .inl k;exact .inr (.inl k)
 obtain⟨u,r,l⟩:=hl i x v hi e1 vis
 refine wpAny_AugAssign_Name ?_
 have go:wpAny (model X.prog X.w) X.A (eval e X.env) (fun w s₂=>wpAny (model X.prog X.w) X.A (inplaceOp op u w) (fun r s₃=>wpAny (model X.prog X.w) X.A (storeName X.env x r) (fun _=>SP X pins D .next) X.xe s₃) X.xe s₂) X.xe s:=by
  refine wQ (he pins s σ H _ I h) fun w s1 ⟨y,H1,I1,r1,q1⟩=>?_
  refine wQ (ho pins s1 σ H1 v y u w _ I1 r r1 q1) fun z s2 ⟨zv,H2,I2,r2,q2⟩=>?_
  exact Jj I2 hN hi hx r2 (fun s3 I3=>⟨_,H2,I3,q2⟩) hf
 rcases l with ⟨hk,hm⟩ | ⟨hk,c,hc,hcell⟩
 ·exact wpAny_loadName_local I.ok.kind hk hn hm go
 ·rcases hk with hk | hk
  ·exact wpAny_loadName_cell I.ok.kind hk hc hcell go
  ·rcases hx with k | k
   ·have:X.env.scope.names.lookup x=some .free:=hk
    rw[k] at this;cases this
   ·have:X.env.scope.names.lookup x=some .free:=hk
    rw[k] at this;cases this
def zkv (c:TT)(tb:TS):TS:=fun D σ H=>∃W:Nat->St->Hp->Prop,(∃m,W m σ H)/\∀m σ H,W m σ H ->
 c σ H fun b H1=>if b=true then ∃N:St->Hp->Prop,(∀ σ' H',N σ' H'->∃m',m'<m/\W m' σ' H')/\tb { D with nx:=N,ct:=N,bk:=D.nx } σ H1 else D.nx σ H1
theorem Qx {c:Expr}{body:List Stmt}{tc:TT}{tb:TS}(hp:PassesOwn (model X.prog X.w) X.A X.env X.xe)(hc:PT X c tc)(hb:PSs X body tb):PS X (.While c body [] pos) (zkv tc tb):=by
 intro pins s σ H D I h
 obtain⟨W,⟨m0,w0⟩,turn⟩:=h
 refine wpAny_While (codeAny_whileLoop (fun n s'=>∃ σ' H',Inv X pins σ' H' s'/\W n σ' H') ?_ m0 ⟨σ,H,I,w0⟩)
 rintro n s1 ⟨σ1,H1,I1,w1⟩
 refine wpAny_passesOwn hp (wQ (hc pins s1 σ1 H1 _ I1 (turn n σ1 H1 w1)) fun b s2 ⟨H2,I2,q2⟩=>?_)
 cases b with
 | true =>
  obtain⟨N,hN,q2⟩:=q2
  rw[if_pos rfl]
  refine wpAny_passesOwn hp (wQ (hb pins s2 σ1 H2 _ I2 q2) fun f s3 q3=>?_)
  cases f with
  | next =>
   obtain⟨σ3,H3,I3,n3⟩:=q3
   obtain⟨m',hm,w3⟩:=hN σ3 H3 n3
   exact⟨m',hm,σ3,H3,I3,w3⟩
  | cont =>
   obtain⟨σ3,H3,I3,n3⟩:=q3
   obtain⟨m',hm,w3⟩:=hN σ3 H3 n3
   exact⟨m',hm,σ3,H3,I3,w3⟩
  | brk=>exact q3
  | ret v=>exact q3
 | false =>
  rw[if_neg zrw]
  exact wpAny_execs_nil ⟨σ1,H2,I2,q2⟩
end
structure It where
 go:Nat->Hp->Prop
 Qs:Nat->Hp->V->Hp->Prop
 stop:Nat->Hp->Prop
def zay (X:Cx)(pins:List (Addr×Obj))(H:Hp)(b:Addr):Prop :=
 H b=none/\b≠X.env.locals/\b∉X.fs/\(b∈X.ex\/X.s₀.heap.objs.size<=b)/\(∀x c,X.env.cells.lookup x=some c->c≠b)/\∀p∈X.pn++pins,p.1≠b
theorem Inv.zeh {X:Cx}{pins:List (Addr×Obj)}{σ:St}{H H':Hp}{s:Shared}{b:Addr}(I:Inv X pins σ H s)(hb:s.heap.objs.size<=b)(hn:H' b=none):zay X pins H' b:=by
 refine⟨hn,Nat.ne_of_gt (zrB I.lt hb),I.zkm hb,.inr (zrO I.sz hb),fun x c e z=>?_,fun p hp z=>?_⟩
 ·obtain⟨v,q⟩:=I.cell x c e
  exact absurd (zrB q.lt (by rw[z];exact hb)) (Nat.lt_irrefl _)
 ·exact absurd (zrB (zrz (I.pin p hp).1) (by rw[z];exact hb)) (Nat.lt_irrefl _)
abbrev Calm (X:Cx):Prop:=X.calm=true
structure Turn (P:Program)(w:World)(K:Frag)(tg:Expr)(J:It)(fp:List Addr)(it:Addr)(tn:Nat->Heap->Prop)(rd:Cx->Prop:=Calm):Prop where
 mem:it∈fp
 obj:∀i h,tn i h->∀b∈fp,∃o,h.get? b=some o/\∀v,o.data≠.cell v
 keep:∀i h h',tn i h->(∀b∈fp,∀o,h.get? b=some o->h'.get? b=some o)->tn i h'
 item:∀(X:Cx),X.prog=P->X.w=w->X.K=K->rd X->∀(i:Nat) (pins:List (Addr×Obj)) (s:Shared) (σ:St) (H:Hp) (E:Value->Shared->Prop),Inv X pins σ H s->(∀b∈fp,zay X pins H b)->tn i s.heap->J.go i H ->
  wpAny (model P w) X.A (pyNext (.ref it)) (fun r s1=>∃u,r=some u /\
   wpAny (model P w) X.A (letOwnedTupleGo tg (.ref it) u) (fun _ s2=>∃x H',Inv X pins σ H' s2/\RelV x u/\J.Qs i H x H'/\tn (i+1) s2.heap/\∀b∈fp,H' b=none) E s1) E s
 done:∀(X:Cx),X.prog=P->X.w=w->X.K=K->rd X->∀(i:Nat) (pins:List (Addr×Obj)) (s:Shared) (σ:St) (H:Hp) (E:Value->Shared->Prop),Inv X pins σ H s->(∀b∈fp,zay X pins H b)->tn i s.heap->J.stop i H ->
  wpAny (model P w) X.A (pyNext (.ref it)) (fun r s1=>r=none/\Inv X pins σ H s1) E s
 self:∀(A:Around) (i:Nat) (s:Shared) (Q:Value->Shared->Prop) (E:Value->Shared->Prop),tn i s.heap->Q (.ref it) s->wpAny (model P w) A (pyIter (.ref it)) Q E s
abbrev TI:=St->Hp->(It->Hp->Prop)->Prop
def zlO (rd:Cx->Prop)(X:Cx)(pins:List (Addr×Obj))(σ:St)(tg:Expr)(R:It->Hp->Prop)(itv:Value)(s2:Shared):Prop :=
 ∃(it:Addr) (fp:List Addr) (tn:Nat->Heap->Prop) (J:It) (H':Hp),itv=.ref it/\Inv X pins σ H' s2/\Turn X.prog X.w X.K tg J fp it tn rd/\tn 0 s2.heap/\(∀b∈fp,zay X pins H' b)/\R J H'
abbrev PIE:=zlO Calm
def PIr (rd:Cx->Prop)(X:Cx)(tg iter:Expr)(wi:TI):Prop :=
 ∀(pins:List (Addr×Obj)) (s:Shared) (σ:St) (H:Hp) (R:It->Hp->Prop),Inv X pins σ H s->wi σ H R ->
  wpAny (model X.prog X.w) X.A (eval iter X.env) (fun v s1=>wpAny (model X.prog X.w) X.A (pyIter v) (zlO rd X pins σ tg R) X.xe s1) X.xe s
abbrev PI:=PIr Calm
theorem zcZ {M:Model}{A:Around}{E:Value->Shared->Prop}{s:Shared}{tg:Expr}{it:Addr}{u:Value}{o:Obj}{n:String}{vs:Array Value}{Q:Unit->Shared->Prop}(ho:s.heap.get? it=some o)(hc:o.cls=.type n)(hd:o.data=.fields vs)
  (hn:["enumerate", "zip", "dict_itemiterator", "dict_reverseitemiterator", "odict_iterator", "itertools.zip_longest", "itertools.pairwise"].contains n=false)(hQ:Q () s):wpAny M A (letOwnedTupleGo tg (.ref it) u) Q E s:=by
 unfold letOwnedTupleGo
 cases tg<;>first
  | exact wpAny_pure hQ
  | (cases u<;>first
    | exact wpAny_pure hQ
    | (refine wpAny_bind (wpAny_load ho ?_)
       rw[hc,hd]
       show wpAny M A (if (["enumerate", "zip", "dict_itemiterator", "dict_reverseitemiterator", "odict_iterator", "itertools.zip_longest", "itertools.pairwise"].contains n&&vs[0]?==some (rawInt _))=true then _ else _) Q E s
       rw[if_neg (by intro h;rw[hn,Bool.false_and] at h;cases h)]
       exact wpAny_pure hQ))
def Itl (K:Frag)(a:Addr):It :=
 ⟨fun i H=>∃xs x,zX K H a xs/\xs[i]?=some x,fun i H x H'=>H'=H/\∀xs,zX K H a xs->xs[i]?=some x,fun i H=>∃xs,zX K H a xs/\xs.length<=i⟩
def Itt (K:Frag)(a:Addr):It :=
 ⟨fun i H=>∃xs x,vp K H a xs/\xs[i]?=some x,fun i H x H'=>H'=H/\∀xs,vp K H a xs->xs[i]?=some x,fun i H=>∃xs,vp K H a xs/\xs.length<=i⟩
def Itr (lo:Int)(n:Nat):It:=⟨fun i _=>i<n,fun i H x H'=>H'=H/\x=.int (lo+i),fun i _=>n<=i⟩
theorem zf3 {P:Program}{w:World}{K:Frag}{tg:Expr}(a it:Addr):Turn P w K tg (Itl K a) [it] it (fun i h=>h.IsListIter it a i) where
 mem:=by simp
 obj:=fun i h st b hb=>by
  have e:b=it:=by simpa using hb
  subst e
  obtain⟨o,e,c,d⟩:=st
  exact⟨o,e,fun v z=>by rw[d] at z;cases z⟩
 keep:=fun i h h' st k=>st.at fun o e=>k it (by simp) o e
 item:=by
  intro X hP hw hK hc i pins s σ H E I hf st hg
  subst hP hw hK
  obtain⟨xs,x,hq,hx⟩:=hg
  obtain⟨its,rv,p,hz⟩:=I.list hq
  obtain⟨u,hu,ru⟩:=rv.get hx
  obtain⟨f0,f1,f2,f3,f4,f5⟩:=hf it (by simp)
  refine wpAny_pyNext_list_item st p.isList (x:=u) (by simpa using hu) fun h' st' sb=>?_
  have I1:Inv X pins σ H { s with heap:=h' }:=I.turned (t':=s.toks) (fun b o hb e=>(sb.2 b hb).trans e) f0 f1 f3 f4 f5
  obtain⟨o,e,c,d⟩:=id st'
  exact⟨u,rfl,zcZ (s:={ s with heap:=h' }) e c d (by decide) ⟨x,H,I1,ru,⟨rfl,fun ys hy=>by rw[I.WY hy hq];exact hx⟩,st',fun b hb=>(hf b hb).1⟩⟩
 done:=by
  intro X hP hw hK hc i pins s σ H E I hf st hg
  subst hP hw hK
  obtain⟨xs,hq,hx⟩:=hg
  obtain⟨its,rv,p,hz⟩:=I.list hq
  obtain⟨f0,f1,f2,f3,f4,f5⟩:=hf it (by simp)
  have hl:=rv.length
  exact wpAny_pyNext_list_end (I.ok.hd hc) st p.isList (by simp;omega) fun h' eb=>⟨rfl,I.turned (t':=s.toks) (fun b o hb e=>eb b o hb e) f0 f1 f3 f4 f5⟩
 self:=fun _ _ _ _ _ st h=>wpAny_pyIter_listiter st h
theorem zei {P:Program}{w:World}{K:Frag}{tg:Expr}(a it:Addr):Turn P w K tg (Itt K a) [it] it (fun i h=>h.IsTupleIter it a i) where
 mem:=by simp
 obj:=fun i h st b hb=>by
  have e:b=it:=by simpa using hb
  subst e
  obtain⟨o,e,c,d⟩:=st
  exact⟨o,e,fun v z=>by rw[d] at z;cases z⟩
 keep:=fun i h h' st k=>st.at fun o e=>k it (by simp) o e
 item:=by
  intro X hP hw hK hc i pins s σ H E I hf st hg
  subst hP hw hK
  obtain⟨xs,x,hq,hx⟩:=hg
  obtain⟨its,rv,p,hz⟩:=I.tuple hq
  obtain⟨u,hu,ru⟩:=rv.get hx
  obtain⟨f0,f1,f2,f3,f4,f5⟩:=hf it (by simp)
  refine wpAny_pyNext_tuple_item st (show s.heap.IsTuple a its.toArray from p) (x:=u) (by simpa using hu) fun h' st' sb=>?_
  have I1:Inv X pins σ H { s with heap:=h' }:=I.turned (t':=s.toks) (fun b o hb e=>(sb.2 b hb).trans e) f0 f1 f3 f4 f5
  obtain⟨o,e,c,d⟩:=id st'
  exact⟨u,rfl,zcZ (s:={ s with heap:=h' }) e c d (by decide) ⟨x,H,I1,ru,⟨rfl,fun ys hy=>by rw[I.za0 hy hq];exact hx⟩,st',fun b hb=>(hf b hb).1⟩⟩
 done:=by
  intro X hP hw hK hc i pins s σ H E I hf st hg
  subst hP hw hK
  obtain⟨xs,hq,hx⟩:=hg
  obtain⟨its,rv,p,hz⟩:=I.tuple hq
  obtain⟨f0,f1,f2,f3,f4,f5⟩:=hf it (by simp)
  have hl:=rv.length
  exact wpAny_pyNext_tuple_end (I.ok.hd hc) st (show s.heap.IsTuple a its.toArray from p) (by simp;omega) fun h' eb=>⟨rfl,I.turned (t':=s.toks) (fun b o hb e=>eb b o hb e) f0 f1 f3 f4 f5⟩
 self:=fun _ _ _ _ _ st h=>wpAny_pyIter_tupleiter st h
theorem zej {P:Program}{w:World}{K:Frag}{tg:Expr}(it:Addr)(lo:Int)(n:Nat):Turn P w K tg (Itr lo n) [it] it (fun i h=>IsRangeIter h it (lo+(i:Nat)*1) ((n:Int)-(i:Nat)) 1) where
 mem:=by simp
 obj:=fun i h st b hb=>by
  have e:b=it:=by simpa using hb
  subst e
  exact⟨_,st,fun v z=>by
   have z':Data.fields _=Data.cell v:=z
   cases z'⟩
 keep:=fun i h h' st k=>k it (by simp) _ st
 item:=by
  intro X hP hw hK hc i pins s σ H E I hf st hg
  subst hP hw hK
  obtain⟨f0,f1,f2,f3,f4,f5⟩:=hf it (by simp)
  have W:=Walks.range (prog:=X.prog) (w:=X.w) (I.ok.hd hc) it lo 1 n
  refine W.item i s _ _ hg st fun v h' tk hv st' kk=>?_
  obtain⟨t,rfl⟩:=hv
  have I1:Inv X pins σ H { s with heap:=h',toks:=tk }:=I.turned (fun b o hb e=>kk b o (by simpa using hb) e) f0 f1 f3 f4 f5
  refine⟨_,rfl,zcZ (s:={ s with heap:=h',toks:=tk }) (n := "range_iterator") st' rfl rfl (by decide) ⟨.int (lo+i),H,I1,⟨t,?_⟩,⟨rfl,rfl⟩,st',fun b hb=>(hf b hb).1⟩⟩
  rw[Int.mul_one]
 done:=by
  intro X hP hw hK hc i pins s σ H E I hf st hg
  subst hP hw hK
  obtain⟨f0,f1,f2,f3,f4,f5⟩:=hf it (by simp)
  exact wpAny_pyNext_range_end (I.ok.hd hc) st (by have:n<=i:=hg;omega) fun h' eb=>⟨rfl,I.turned (t':=s.toks) (fun b o hb e=>eb b o hb e) f0 f1 f3 f4 f5⟩
 self:=fun _ _ _ _ _ st h=>wpAny_pyIter_rangeiter st h
section
variable {X:Cx}{tg:Expr}
def zlP (K:Frag)(tl:TE):TI:=fun σ H R=>tl σ H fun x H1=>∃a,x=.ref a/\(∃xs,zX K H1 a xs)/\R (Itl K a) H1
def znA (K:Frag)(tl:TE):TI:=fun σ H R=>tl σ H fun x H1=>∃a,x=.ref a/\(∃xs,vp K H1 a xs)/\R (Itt K a) H1
theorem wu {l:Expr}{tl:TE}(hl:PE X l tl):PI X tg l (zlP X.K tl):=by
 intro pins s σ H R I h
 refine wQ (hl pins s σ H _ I h) fun v s1 ⟨x,H1,I1,r1,q1⟩=>?_
 obtain⟨a,e,⟨xs,hq⟩,q⟩:=q1
 subst e
 cases r1
 obtain⟨its,rv,p,hz⟩:=I1.list hq
 refine wpAny_pyIter_list p.isList ?_
 refine⟨s1.heap.objs.size,[s1.heap.objs.size],_,_,H1,rfl,I1.kept (t':=s1.toks) fun b o e=>zry _ e,zf3 a _,⟨_,zrN _ rfl,rfl,rfl⟩,fun b hb=>?_,q⟩
 have e:b=s1.heap.objs.size:=by simpa using hb
 subst e
 exact I1.zeh (zrI _) (I1.hok.fresh (zrI _))
theorem RD {l:Expr}{tl:TE}(hl:PE X l tl):PI X tg l (znA X.K tl):=by
 intro pins s σ H R I h
 refine wQ (hl pins s σ H _ I h) fun v s1 ⟨x,H1,I1,r1,q1⟩=>?_
 obtain⟨a,e,⟨xs,hq⟩,q⟩:=q1
 subst e
 cases r1
 obtain⟨its,rv,p,hz⟩:=I1.tuple hq
 refine wpAny_pyIter_tuple (show s1.heap.IsTuple a its.toArray from p) ?_
 refine⟨s1.heap.objs.size,[s1.heap.objs.size],_,_,H1,rfl,I1.kept (t':=s1.toks) fun b o e=>zry _ e,zei a _,⟨_,zrN _ rfl,rfl,rfl⟩,fun b hb=>?_,q⟩
 have e:b=s1.heap.objs.size:=by simpa using hb
 subst e
 exact I1.zeh (zrI _) (I1.hok.fresh (zrI _))
theorem zc0 {pins:List (Addr×Obj)}{σ:St}{H:Hp}{s:Shared}{R:It->Hp->Prop}{E:Value->Shared->Prop}{lo hi:Int}{t u v:Tok}{tk:Nat}(I:Inv X pins σ H s)(h1:-(2^62)<=lo)(h2:lo<2^62)(h3:-(2^62)<=hi)(h4:hi<2^62)
  (q:R (Itr lo (hi-lo).toNat) H):wpAny (model X.prog X.w) X.A (pyIter (.ref s.heap.objs.size)) (PIE X pins σ tg R) E { s with heap:=s.heap.push { cls:=.type "range", data:=.fields #[.int lo t,.int hi u,.int 1 v] },toks:=tk }:=by
 refine wpAny_pyIter_range (IsRange.new ..) (small_one h1 h2 h3 h4) ?_
 have I1:Inv X pins σ H { s with heap:=s.heap.push { cls:=.type "range", data:=.fields #[.int lo t,.int hi u,.int 1 v] },toks:=tk }:=I.kept fun b o e=>zry _ e
 refine⟨(s.heap.push { cls:=.type "range", data:=.fields #[.int lo t,.int hi u,.int 1 v] }).objs.size,[(s.heap.push { cls:=.type "range", data:=.fields #[.int lo t,.int hi u,.int 1 v] }).objs.size],_,_,H,rfl,
  I1.kept (t':=tk) fun b o e=>zry _ e,zej _ lo (hi-lo).toNat,?_,fun b hb=>?_,q⟩
 ·have e1:lo+((0:Nat):Int)*1=lo:=by simp
  have e2:(((hi-lo).toNat:Nat):Int)-((0:Nat):Int)=Builtin.Range.rangeSize lo hi 1:=by rw[rangeSize_one];split<;>omega
  show IsRangeIter _ _ (lo+((0:Nat):Int)*1) ((((hi-lo).toNat:Nat):Int)-((0:Nat):Int)) 1
  rw[e1,e2]
  exact zrN _ rfl
 ·have e:b=(s.heap.push { cls:=.type "range", data:=.fields #[.int lo t,.int hi u,.int 1 v] }).objs.size:=by simpa using hb
  subst e
  exact I1.zeh (zrI _) (I1.hok.fresh (zrI _))
def zlQ (ta:TA):TI:=fun σ H R=>ta σ H fun vs H1=>∃j:Int,vs=[.int j]/\-(2^62)<=j/\j<2^62/\R (Itr 0 j.toNat) H1
def zlR (ta:TA):TI:=fun σ H R=>ta σ H fun vs H1=>∃i j:Int,vs=[.int i,.int j]/\(-(2^62)<=i/\i<2^62/\-(2^62)<=j/\j<2^62)/\R (Itr i (j-i).toNat) H1
theorem Y6 {a:Expr}{ta:TA}{p pos:Pos}(hg:Gl X "range")(hm:X.mg "range"=none)(ha:PA X [a] ta)(hs:starEach [a] X.env=[(false,eval a X.env)]:=by rfl):PI X tg (.Call (.Name "range" p) [a] [] pos) (zlQ ta):=by
 intro pins s σ H R I h
 refine Call_ (Ws I hg hm boot_range (PyProof.Rows.callWith_type1 (wQ (ha pos pins s σ H _ I h) fun us s1 ⟨vs,H1,I1,r1,q1⟩=>?_) hs rfl))
 obtain⟨j,e,q1,q2,q⟩:=q1
 subst e
 cases r1 with
 | cons r rr =>
  cases rr
  obtain⟨t,rfl⟩:=r
  exact call_range_1 (zc0 I1 (by omega) (by omega) q1 q2 (by simpa using q))
theorem za3 {a b:Expr}{ta:TA}{p pos:Pos}(hg:Gl X "range")(hm:X.mg "range"=none)(ha:PA X [a,b] ta)(hs:starEach [a,b] X.env=[(false,eval a X.env),(false,eval b X.env)]:=by rfl)(hs2:starEach [b] X.env=[(false,eval b X.env)]:=by rfl) :
  PI X tg (.Call (.Name "range" p) [a,b] [] pos) (zlR ta):=by
 intro pins s σ H R I h
 refine Call_ (Ws I hg hm boot_range (PyProof.Rows.callWith_type1 (wQ (ha pos pins s σ H _ I h) fun us s1 ⟨vs,H1,I1,r1,q1⟩=>?_) (by rw[hs,hs2]) (by rw[hs2];rfl)))
 obtain⟨i,j,e,⟨q1,q2,q3,q4⟩,q⟩:=q1
 subst e
 cases r1 with
 | cons r rr =>
  cases rr with
  | cons r' rr =>
   cases rr
   obtain⟨t,rfl⟩:=r
   obtain⟨t',rfl⟩:=r'
   exact call_range_2 (zc0 I1 q1 q2 q3 q4 q)
def znB (wi:TI)(g:TG)(tb:TS):TS:=fun D σ H=>wi σ H fun J H1=>∃W:Nat->Nat->St->Hp->Prop,(∃m,W 0 m σ H1)/\∀i m σ H,W i m σ H ->
 (J.stop i H/\D.nx σ H)\/(J.go i H/\∃N:St->Hp->Prop,(∀ σ' H',N σ' H'->∃m',m'<m/\W (i+1) m' σ' H')/\∀x H',J.Qs i H x H'->g x σ H' fun σ2 H2=>tb { D with nx:=N,ct:=N,bk:=D.nx } σ2 H2)
def RG (fp:List Addr)(h:Heap):List (Addr×Obj):=fp.filterMap fun b=>(h.get? b).map fun o=>(b,o)
theorem Vu {fp:List Addr}{h:Heap}{b:Addr}{o:Obj}(hb:b∈fp)(e:h.get? b=some o):(b,o)∈RG fp h:=List.mem_filterMap.mpr ⟨b,hb,by rw[e];rfl⟩
theorem za4 {fp:List Addr}{h:Heap}{p:Addr×Obj}(hp:p∈RG fp h):p.1∈fp/\h.get? p.1=some p.2:=by
 obtain⟨b,hb,e⟩:=List.mem_filterMap.mp hp
 cases q:h.get? b with
 | none=>rw[q] at e;cases e
 | some o =>
  rw[q] at e
  have e':(b,o)=p:=zrX e
  subst e'
  exact⟨hb,q⟩
theorem Inv.pinned {pins:List (Addr×Obj)}{σ:St}{H:Hp}{s:Shared}{fp:List Addr}(I:Inv X pins σ H s)(hf:∀b∈fp,zay X pins H b)(ho:∀b∈fp,∃o,s.heap.get? b=some o/\∀v,o.data≠.cell v):Inv X (pins++RG fp s.heap) σ H s :=
 I.YJ fun p hp=>(List.mem_append.mp hp).elim (fun z=>I.pin p (zrJ _ z)) fun z=>by
  obtain⟨hb,e⟩:=za4 z
  obtain⟨f0,f1,f2,_⟩:=hf p.1 hb
  obtain⟨o,e',d⟩:=ho p.1 hb
  rw[e] at e';cases e'
  exact⟨e,f0,f1,f2,d⟩
theorem Inv.Jo {pins pl:List (Addr×Obj)}{σ:St}{H:Hp}{s:Shared}(I:Inv X (pins++pl) σ H s):Inv X pins σ H s:=I.YJ fun p hp=>I.pin p (zrJ _ (List.mem_append_left _ hp))
theorem uQ {iter:Expr}{body:List Stmt}{wi:TI}{g:TG}{tb:TS}{pos:Pos}(hp:PassesOwn (model X.prog X.w) X.A X.env X.xe)(hc:X.calm=true)(hi:PI X tg iter wi)(hg:PG X tg g)(hb:PSs X body tb)
  (hs:∀x,foldedSetIterable iter X.env x=pure x:=by intro _;rfl):PS X (.For tg iter body [] pos) (znB wi g tb):=by
 intro pins s σ H D I h
 refine wpAny_For (wQ (hi pins s σ H _ I h) fun v s1 h1=>wQ h1 fun itv s2 h2=>?_) hs
 obtain⟨it,fp,tn,J,H2,e,I2,T,st2,f2,W,⟨m0,w0⟩,turn⟩:=h2
 subst e
 have stat:∀{H':Hp},(∀b∈fp,H' b=none)->∀b∈fp,zay X pins H' b:=fun hn b hb=>⟨hn b hb,(f2 b hb).2⟩
 refine codeAny_forLoop_any (fun n s'=>∃i σ' H',Inv X pins σ' H' s'/\tn i s'.heap/\(∀b∈fp,H' b=none)/\W i n σ' H') ?_ m0 ⟨0,σ,H2,I2,st2,fun b hb=>(f2 b hb).1,w0⟩
 rintro n s3 ⟨i,σ3,H3,I3,st3,fr3,w3⟩
 rcases turn i n σ3 H3 w3 with ⟨stop,qn⟩ | ⟨go,N,hN,step⟩
 ·refine wpAny_passesOwn hp (wQ (T.done X rfl rfl rfl hc i pins s3 σ3 H3 X.xe I3 (stat fr3) st3 stop) fun r s4 ⟨hr,I4⟩=>?_)
  subst hr
  exact wpAny_execs_nil ⟨σ3,H3,I4,qn⟩
 ·refine wpAny_passesOwn hp (wQ (T.item X rfl rfl rfl hc i pins s3 σ3 H3 X.xe I3 (stat fr3) st3 go) fun r s4 ⟨u,hr,h4⟩=>?_)
  subst hr
  refine wpAny_passesOwn hp (wQ h4 fun _ s5 ⟨x,H5,I5,r5,y5,st5,fr5⟩=>?_)
  have I5':=I5.pinned (stat fr5) (T.obj _ _ st5)
  refine wpAny_passesOwn hp (wQ (hg _ s5 σ3 H5 x u _ I5' r5 (step x H5 y5)) fun _ s6 ⟨σ6,H6,I6,q6⟩=>?_)
  refine wpAny_passesOwn hp (wQ (hb _ s6 σ6 H6 _ I6 q6) fun f s7 q7=>?_)
  have again:∀{σ7:St} {H7:Hp},Inv X (pins++RG fp s5.heap) σ7 H7 s7->N σ7 H7->∃m,m<n/\∃i σ' H',Inv X pins σ' H' s7/\tn i s7.heap/\(∀b∈fp,H' b=none)/\W i m σ' H':=fun {σ7 H7} I7 n7=>by
   obtain⟨m',hm,w7⟩:=hN σ7 H7 n7
   refine⟨m',hm,i+1,σ7,H7,I7.Jo,T.keep _ _ _ st5 fun b hb o e=>(I7.pin (b,o) (zrJ _ (zrJ _ (Vu hb e)))).1,fun b hb=>?_,w7⟩
   obtain⟨o,e,d⟩:=T.obj _ _ st5 b hb
   exact(I7.pin (b,o) (zrJ _ (zrJ _ (Vu hb e)))).2.1
  cases f with
  | next=>obtain⟨σ7,H7,I7,n7⟩:=q7;exact again I7 n7
  | cont=>obtain⟨σ7,H7,I7,n7⟩:=q7;exact again I7 n7
  | brk=>obtain⟨σ7,H7,I7,q7⟩:=q7;exact⟨σ7,H7,I7.Jo,q7⟩
  | ret v=>obtain⟨x7,σ7,H7,I7,r7,q7⟩:=q7;exact⟨x7,σ7,H7,I7.Jo,r7,q7⟩
end
theorem Zd {K:Frag}{a:Addr}{xs:List V}{g:TG}{tb:TS}{D:Ends}{σ:St}{H:Hp}(Pv:Nat->St->Hp->Prop)(h0:Pv 0 σ H)(hl:∀i σ H,i<=xs.length->Pv i σ H->zX K H a xs)
  (hs:∀i x σ H,xs[i]?=some x->Pv i σ H->g x σ H fun σ2 H2=>tb { D with nx:=Pv (i+1),ct:=Pv (i+1),bk:=D.nx } σ2 H2)(hd:∀ σ H,Pv xs.length σ H->D.nx σ H) :
  ∃W:Nat->Nat->St->Hp->Prop,(∃m,W 0 m σ H)/\∀i m σ H,W i m σ H ->
   ((Itl K a).stop i H/\D.nx σ H)\/((Itl K a).go i H/\∃N:St->Hp->Prop,(∀ σ' H',N σ' H'->∃m',m'<m/\W (i+1) m' σ' H')/\∀x H',(Itl K a).Qs i H x H'->g x σ H' fun σ2 H2=>tb { D with nx:=N,ct:=N,bk:=D.nx } σ2 H2):=by
 refine⟨fun i m σ H=>m=xs.length-i/\i<=xs.length/\Pv i σ H,⟨xs.length,by simp,zrP _,h0⟩,?_⟩
 rintro i m σ H ⟨rfl,hi,p⟩
 have q:=hl i σ H hi p
 by_cases hlt:i<xs.length
 ·refine .inr ⟨⟨xs,xs[i],q,by simp[hlt]⟩,Pv (i+1),fun σ' H' p'=>⟨xs.length-(i+1),by omega,rfl,hlt,p'⟩,fun x H' y=>?_⟩
  obtain⟨e,y⟩:=y
  subst e
  exact hs i x σ _ (y xs q) p
 ·have e:i=xs.length:=by omega
  subst e
  exact .inl ⟨⟨xs,q,zrI _⟩,hd σ H p⟩
theorem zir {K:Frag}{a:Addr}{xs:List V}{g:TG}{tb:TS}{D:Ends}{σ:St}{H:Hp}(Pv:Nat->St->Hp->Prop)(h0:Pv 0 σ H)(hl:∀i σ H,i<=xs.length->Pv i σ H->vp K H a xs)
  (hs:∀i x σ H,xs[i]?=some x->Pv i σ H->g x σ H fun σ2 H2=>tb { D with nx:=Pv (i+1),ct:=Pv (i+1),bk:=D.nx } σ2 H2)(hd:∀ σ H,Pv xs.length σ H->D.nx σ H) :
  ∃W:Nat->Nat->St->Hp->Prop,(∃m,W 0 m σ H)/\∀i m σ H,W i m σ H ->
   ((Itt K a).stop i H/\D.nx σ H)\/((Itt K a).go i H/\∃N:St->Hp->Prop,(∀ σ' H',N σ' H'->∃m',m'<m/\W (i+1) m' σ' H')/\∀x H',(Itt K a).Qs i H x H'->g x σ H' fun σ2 H2=>tb { D with nx:=N,ct:=N,bk:=D.nx } σ2 H2):=by
 refine⟨fun i m σ H=>m=xs.length-i/\i<=xs.length/\Pv i σ H,⟨xs.length,by simp,zrP _,h0⟩,?_⟩
 rintro i m σ H ⟨rfl,hi,p⟩
 have q:=hl i σ H hi p
 by_cases hlt:i<xs.length
 ·refine .inr ⟨⟨xs,xs[i],q,by simp[hlt]⟩,Pv (i+1),fun σ' H' p'=>⟨xs.length-(i+1),by omega,rfl,hlt,p'⟩,fun x H' y=>?_⟩
  obtain⟨e,y⟩:=y
  subst e
  exact hs i x σ _ (y xs q) p
 ·have e:i=xs.length:=by omega
  subst e
  exact .inl ⟨⟨xs,q,zrI _⟩,hd σ H p⟩
theorem W0 {lo:Int}{n:Nat}{g:TG}{tb:TS}{D:Ends}{σ:St}{H:Hp}(Pv:Nat->St->Hp->Prop)(h0:Pv 0 σ H)
  (hs:∀i σ H,i<n->Pv i σ H->g (.int (lo+i)) σ H fun σ2 H2=>tb { D with nx:=Pv (i+1),ct:=Pv (i+1),bk:=D.nx } σ2 H2)(hd:∀ σ H,Pv n σ H->D.nx σ H) :
  ∃W:Nat->Nat->St->Hp->Prop,(∃m,W 0 m σ H)/\∀i m σ H,W i m σ H ->
   ((Itr lo n).stop i H/\D.nx σ H)\/((Itr lo n).go i H/\∃N:St->Hp->Prop,(∀ σ' H',N σ' H'->∃m',m'<m/\W (i+1) m' σ' H')/\∀x H',(Itr lo n).Qs i H x H'->g x σ H' fun σ2 H2=>tb { D with nx:=N,ct:=N,bk:=D.nx } σ2 H2):=by
 refine⟨fun i m σ H=>m=n-i/\i<=n/\Pv i σ H,⟨n,by simp,zrP _,h0⟩,?_⟩
 rintro i m σ H ⟨rfl,hi,p⟩
 by_cases hlt:i<n
 ·refine .inr ⟨hlt,Pv (i+1),fun σ' H' p'=>⟨n-(i+1),by omega,rfl,hlt,p'⟩,fun x H' y=>?_⟩
  obtain⟨e,y⟩:=y
  subst e y
  exact hs i σ _ hlt p
 ·have e:i=n:=by omega
  subst e
  exact .inl ⟨zrI _,hd σ H p⟩
abbrev R2:=V->V->Hp->VK->Prop
def Uq (X:Cx)(f:Value->Value->Sem Value)(r:R2):Prop :=
 ∀(pins:List (Addr×Obj)) (s:Shared) (σ:St) (H:Hp) (x y:V) (v u:Value) (Q:VK),Inv X pins σ H s->RelV x v->RelV y u->r x y H Q ->
  wpAny (model X.prog X.w) X.A (f v u) (EP X pins σ Q) X.xe s
def UnR (X:Cx)(f:Value->Sem Value)(r:V->Hp->VK->Prop):Prop :=
 ∀(pins:List (Addr×Obj)) (s:Shared) (σ:St) (H:Hp) (x:V) (v:Value) (Q:VK),Inv X pins σ H s->RelV x v->r x H Q ->
  wpAny (model X.prog X.w) X.A (f v) (EP X pins σ Q) X.xe s
def YF (X:Cx)(f:Value)(r:List V->Hp->VK->Prop):Prop :=
 ∀(pins:List (Addr×Obj)) (s:Shared) (σ:St) (H:Hp) (xs:List V) (us:List Value) (Q:VK),Inv X pins σ H s->Vals xs us->r xs H Q ->
  wpAny (model X.prog X.w) X.A (call f us) (EP X pins σ Q) X.xe s
def znE (X:Cx)(r:V->Hp->(Bool->Hp->Prop)->Prop):Prop :=
 ∀(pins:List (Addr×Obj)) (s:Shared) (σ:St) (H:Hp) (x:V) (v:Value) (Q:Bool->Hp->Prop),Inv X pins σ H s->RelV x v->r x H Q ->
  wpAny (model X.prog X.w) X.A (truthy v) (TP X pins σ Q) X.xe s
def tOp (r:R2)(ta tb:TE):TE:=fun σ H Q=>ta σ H fun x H1=>tb σ H1 fun y H2=>r x y H2 Q
def tUn (r:V->Hp->VK->Prop)(ta:TE):TE:=fun σ H Q=>ta σ H fun x H1=>r x H1 Q
def rI (C:Int->Int->Prop)(g:Int->Int->V):R2:=fun x y H Q=>∃i j,x=.int i/\y=.int j/\C i j/\Q (g i j) H
def rI0 (g:Int->Int->V):R2:=fun x y H Q=>∃i j,x=.int i/\y=.int j/\Q (g i j) H
def rU (g:Int->V):V->Hp->VK->Prop:=fun x H Q=>∃i,x=.int i/\Q (g i) H
section
variable {X:Cx}{a b c:Expr}{ta tb tc:TE}{pos:Pos}
theorem zkw (ha:PE X a ta)(hb:PE X b tb){pins:List (Addr×Obj)}{s:Shared}{σ:St}{H:Hp}{R:V->V->Hp->Prop}(I:Inv X pins σ H s)
  (h:ta σ H fun x H1=>tb σ H1 fun y H2=>R x y H2){Q:Value->Shared->Prop}{f:Value->Value->Sem Value}
  (hf:∀v u s2 x y H2,Inv X pins σ H2 s2->RelV x v->RelV y u->R x y H2->wpAny (model X.prog X.w) X.A (f v u) Q X.xe s2) :
  wpAny (model X.prog X.w) X.A (eval a X.env) (fun v s₁=>wpAny (model X.prog X.w) X.A (eval b X.env) (fun u s₂=>wpAny (model X.prog X.w) X.A (f v u) Q X.xe s₂) X.xe s₁) X.xe s:=by
 refine wQ (ha pins s σ H _ I h) fun v s1 ⟨x,H1,I1,r1,q1⟩=>?_
 refine wQ (hb pins s1 σ H1 _ I1 q1) fun u s2 ⟨y,H2,I2,r2,q2⟩=>?_
 exact hf v u s2 x y H2 I2 r1 r2 q2
theorem zJ {op:Operator}{r:R2}(ho:Uq X (binaryOp op) r)(ha:PE X a ta)(hb:PE X b tb):PE X (.BinOp a op b pos) (tOp r ta tb):=by
 intro pins s σ H Q I h
 exact wpAny_BinOp (zkw ha hb I h fun v u s2 x y H2 I2 rx ry q=>ho pins s2 σ H2 x y v u Q I2 rx ry q)
theorem zjW {op:UnaryOp}{r:V->Hp->VK->Prop}(ho:UnR X (unaryOp op) r)(ha:PE X a ta):PE X (.UnaryOp op a pos) (tUn r ta):=by
 intro pins s σ H Q I h
 exact UnaryOp_ (wQ (ha pins s σ H _ I h) fun v s1 ⟨x,H1,I1,r1,q1⟩=>ho pins s1 σ H1 x v Q I1 r1 q1)
theorem opI {f:Value->Value->Sem Value}{C:Int->Int->Prop}{g:Int->Int->Int}
  (rule:∀(i j:Int) (t u:Tok) (s:Shared) (Q:Value->Shared->Prop) (E:Value->Shared->Prop),C i j->Q (.int (g i j) s.toks) { s with toks:=s.toks+1 }->wpAny (model X.prog X.w) X.A (f (.int i t) (.int j u)) Q E s) :
  Uq X f (rI C fun i j=>.int (g i j)):=by
 intro pins s σ H x y v u Q I rx ry h
 obtain⟨i,j,rfl,rfl,hc,q⟩:=h
 obtain⟨t,rfl⟩:=rx
 obtain⟨t',rfl⟩:=ry
 exact rule i j t t' s _ _ hc ⟨.int (g i j),H,I.tok _,⟨_,rfl⟩,q⟩
theorem zf4 {f:Value->Value->Sem Value}{g:Int->Int->Int}
  (rule:∀(i j:Int) (t u:Tok) (s:Shared) (Q:Value->Shared->Prop) (E:Value->Shared->Prop),Q (.int (g i j) s.toks) { s with toks:=s.toks+1 }->wpAny (model X.prog X.w) X.A (f (.int i t) (.int j u)) Q E s) :
  Uq X f (rI0 fun i j=>.int (g i j)):=by
 intro pins s σ H x y v u Q I rx ry h
 obtain⟨i,j,rfl,rfl,q⟩:=h
 obtain⟨t,rfl⟩:=rx
 obtain⟨t',rfl⟩:=ry
 exact rule i j t t' s _ _ ⟨.int (g i j),H,I.tok _,⟨_,rfl⟩,q⟩
theorem zkx {f:Value->Value->Sem Value}{g:Int->Int->Bool}
  (rule:∀(i j:Int) (t u:Tok) (s:Shared) (Q:Value->Shared->Prop) (E:Value->Shared->Prop),Q (.bool (g i j)) s->wpAny (model X.prog X.w) X.A (f (.int i t) (.int j u)) Q E s) :
  Uq X f (rI0 fun i j=>.bl (g i j)):=by
 intro pins s σ H x y v u Q I rx ry h
 obtain⟨i,j,rfl,rfl,q⟩:=h
 obtain⟨t,rfl⟩:=rx
 obtain⟨t',rfl⟩:=ry
 exact rule i j t t' s _ _ ⟨.bl (g i j),H,I,rfl,q⟩
def znF (i j:Int):Prop:=0<j/\j<1073741824
def znG (i j:Int):Prop:=0<=j/\j<=1000000/\i.natAbs<2^64
def zky (i j:Int):Prop:=(-(2^64)<i/\i<2^64)\/(-(2^64)<j/\j<2^64)
theorem zky.ok {i j:Int}(h:zky i j):IntMulOk i j:=by
 rcases h with ⟨h1,h2⟩ | ⟨h1,h2⟩
 ·exact .of_left (intBits_le_64 h1 h2)
 ·exact .of_right (intBits_le_64 h1 h2)
theorem zek (k:Nat):(0:Int)<=2^k:=by
 rw[two_pow_cast]
 exact Int.natCast_nonneg _
theorem xY:Uq X (binaryOp .Add) (rI0 fun i j=>.int (i+j)):=zf4 fun _ _ _ _ _ _ _ q=>add_int q
theorem Jp:Uq X (binaryOp .Sub) (rI0 fun i j=>.int (i-j)):=zf4 fun _ _ _ _ _ _ _ q=>sub_int q
theorem Jq:Uq X (binaryOp .Mult) (rI zky fun i j=>.int (i*j)):=opI fun _ _ _ _ _ _ _ hc q=>mul_int q hc.ok
theorem zff:Uq X (binaryOp .FloorDiv) (rI znF fun i j=>.int (i / j)):=opI fun i j _ _ _ _ _ hc q=>by
 have h1:(0:Int)<j:=hc.1
 have h2:j<1073741824:=hc.2
 exact floordiv_int (by omega) (by rw[Int.fdiv_eq_ediv_of_nonneg i (by omega)];exact q) (.inl (PyProof.noPylong_small (by omega)))
theorem Ze:Uq X (binaryOp .Mod) (rI (fun _ j=>0<j) fun i j=>.int (i%j)):=opI fun i j _ _ _ _ _ hc q=>by
 have h1:(0:Int)<j:=hc
 exact mod_int' (by omega) (by rw[Int.fmod_eq_emod_of_nonneg i (by omega)];exact q)
theorem zkz:Uq X (binaryOp .Pow) (rI znG fun i j=>.int (i^j.toNat)):=opI fun _ _ _ _ _ _ _ hc q=>pow_int_small hc.1 hc.2.1 hc.2.2 q
theorem zkA:Uq X (binaryOp .RShift) (rI (fun _ j=>0<=j) fun i j=>.int (i / 2^j.toNat)):=opI fun i j _ _ _ _ _ hc q =>
 rshift_int hc (by rw[Int.fdiv_eq_ediv_of_nonneg i (zek _)];exact q)
theorem zkB:Uq X (binaryOp .BitAnd) (rI0 fun i j=>.int (Builtin.bitAnd i j)):=zf4 fun _ _ _ _ _ _ _ q=>and_int q
theorem zlT:Uq X (binaryOp .BitOr) (rI0 fun i j=>.int (Builtin.bitOr i j)):=zf4 fun _ _ _ _ _ _ _ q=>or_int q
theorem zkC:Uq X (binaryOp .BitXor) (rI0 fun i j=>.int (Builtin.bitXor i j)):=zf4 fun _ _ _ _ _ _ _ q=>xor_int q
theorem zbN:Uq X (inplaceOp .Add) (rI0 fun i j=>.int (i+j)):=zf4 fun _ _ _ _ _ _ _ q=>iadd_int q
theorem unI {f:Value->Sem Value}{g:Int->Int}
  (rule:∀(i:Int) (t:Tok) (s:Shared) (Q:Value->Shared->Prop) (E:Value->Shared->Prop),Q (.int (g i) s.toks) { s with toks:=s.toks+1 }->wpAny (model X.prog X.w) X.A (f (.int i t)) Q E s) :
  UnR X f (rU fun i=>.int (g i)):=by
 intro pins s σ H x v Q I rx h
 obtain⟨i,rfl,q⟩:=h
 obtain⟨t,rfl⟩:=rx
 exact rule i t s _ _ ⟨.int (g i),H,I.tok _,⟨_,rfl⟩,q⟩
theorem zgS:UnR X (unaryOp .USub) (rU fun i=>.int (-i)):=unI fun _ _ _ _ _ q=>neg_int q
end
def zlU:V->V->Bool
 | .non,.non=>true | .non,.int _=>true | .int _,.non=>true | .non,.bl _=>true | .bl _,.non=>true | .non,.str _=>true | .str _,.non=>true
 | .int _,.int _=>true | .bl _,.bl _=>true | .str _,.str _=>true | .byt _,.byt _=>true
 | .int _,.str _=>true | .str _,.int _=>true | .bl _,.str _=>true | .str _,.bl _=>true
 | _,_=>false
def rEq:R2:=fun x y H Q=>zlU x y=true/\Q (.bl (decide (x=y))) H
def rNe:R2:=fun x y H Q=>zlU x y=true/\Q (.bl (!decide (x=y))) H
theorem zfg {i j:Int}:decide (V.int i=V.int j)=(i==j):=by
 rw[zr8]
 simp
theorem zgT {i j:Bool}:decide (V.bl i=V.bl j)=(i==j):=by
 rw[zr8]
 simp
theorem zfh {i j:Str}:decide (V.str i=V.str j)=(i==j):=by
 rw[zr8]
 simp
theorem zfi {i j:Array UInt8}:decide (V.byt i=V.byt j)=(i.toList==j.toList):=by
 rw[zr8]
 cases i
 cases j
 simp
section
variable {X:Cx}{a b c:Expr}{ta tb tc:TE}{pos:Pos}
theorem yK {pins:List (Addr×Obj)}{σ:St}{H:Hp}{s:Shared}{Q:VK}{k k':Bool}(I:Inv X pins σ H s)(q:Q (.bl k) H)(e:k=k'):EP X pins σ Q (.bool k') s:=by
 subst e
 exact⟨.bl k,H,I,rfl,q⟩
theorem xr:Uq X (compareOp .Eq) rEq:=by
 intro pins s σ H x y v u Q I rx ry h
 obtain⟨hs,q⟩:=h
 cases x with
 | non =>
  cases rx
  cases y with
  | non=>cases ry;exact PySem.EqNone.eq_none_none (yK I q (by simp))
  | bl j=>cases ry;exact PySem.EqNone.eq_none_bool (yK I q (by simp))
  | int j=>obtain⟨t',rfl⟩:=ry;exact PySem.EqNone.eq_none_int (yK I q (by simp))
  | str j=>obtain⟨t',rfl⟩:=ry;exact PySem.EqNone.eq_none_str (yK I q (by simp))
  | _=>exact absurd (show false=true from hs) zrw
 | bl i =>
  cases rx
  cases y with
  | non=>cases ry;exact PySem.EqNone.eq_bool_none (yK I q (by simp))
  | bl j=>cases ry;exact eq_bool (yK I q zgT)
  | str j=>obtain⟨t',rfl⟩:=ry;exact PySem.EqMixed.eq_bool_str (yK I q (by simp))
  | _=>exact absurd (show false=true from hs) zrw
 | int i =>
  obtain⟨t,rfl⟩:=rx
  cases y with
  | non=>cases ry;exact PySem.EqNone.eq_int_none (yK I q (by simp))
  | int j=>obtain⟨t',rfl⟩:=ry;exact eq_int (yK I q zfg)
  | str j=>obtain⟨t',rfl⟩:=ry;exact PySem.EqMixed.eq_int_str (yK I q (by simp))
  | _=>exact absurd (show false=true from hs) zrw
 | str i =>
  obtain⟨t,rfl⟩:=rx
  cases y with
  | non=>cases ry;exact PySem.EqNone.eq_str_none (yK I q (by simp))
  | bl j=>cases ry;exact PySem.EqMixed.eq_str_bool (yK I q (by simp))
  | int j=>obtain⟨t',rfl⟩:=ry;exact PySem.EqMixed.eq_str_int (yK I q (by simp))
  | str j=>obtain⟨t',rfl⟩:=ry;exact eq_str (yK I q zfh)
  | _=>exact absurd (show false=true from hs) zrw
 | byt i =>
  obtain⟨t,rfl⟩:=rx
  cases y with
  | byt j=>obtain⟨t',rfl⟩:=ry;exact PySem.W.eq_bytes (yK I q zfi)
  | _=>exact absurd (show false=true from hs) zrw
 | _=>cases y<;>exact absurd (show false=true from hs) zrw
theorem za5:Uq X (compareOp .NotEq) rNe:=by
 intro pins s σ H x y v u Q I rx ry h
 obtain⟨hs,q⟩:=h
 cases x with
 | non =>
  cases rx
  cases y with
  | non=>cases ry;exact PySem.EqNone.ne_none_none (yK I q (by simp))
  | bl j=>cases ry;exact PySem.EqNone.ne_none_bool (yK I q (by simp))
  | int j=>obtain⟨t',rfl⟩:=ry;exact PySem.EqNone.ne_none_int (yK I q (by simp))
  | str j=>obtain⟨t',rfl⟩:=ry;exact PySem.EqNone.ne_none_str (yK I q (by simp))
  | _=>exact absurd (show false=true from hs) zrw
 | bl i =>
  cases rx
  cases y with
  | non=>cases ry;exact PySem.EqNone.ne_bool_none (yK I q (by simp))
  | bl j=>cases ry;exact ne_bool (yK I q (congrArg not zgT))
  | str j=>obtain⟨t',rfl⟩:=ry;exact PySem.EqMixed.ne_bool_str (yK I q (by simp))
  | _=>exact absurd (show false=true from hs) zrw
 | int i =>
  obtain⟨t,rfl⟩:=rx
  cases y with
  | non=>cases ry;exact PySem.EqNone.ne_int_none (yK I q (by simp))
  | int j=>obtain⟨t',rfl⟩:=ry;exact ne_int (yK I q (congrArg not zfg))
  | str j=>obtain⟨t',rfl⟩:=ry;exact PySem.EqMixed.ne_int_str (yK I q (by simp))
  | _=>exact absurd (show false=true from hs) zrw
 | str i =>
  obtain⟨t,rfl⟩:=rx
  cases y with
  | non=>cases ry;exact PySem.EqNone.ne_str_none (yK I q (by simp))
  | bl j=>cases ry;exact PySem.EqMixed.ne_str_bool (yK I q (by simp))
  | int j=>obtain⟨t',rfl⟩:=ry;exact PySem.EqMixed.ne_str_int (yK I q (by simp))
  | str j=>obtain⟨t',rfl⟩:=ry;exact ne_str (yK I q (congrArg not zfh))
  | _=>exact absurd (show false=true from hs) zrw
 | byt i =>
  obtain⟨t,rfl⟩:=rx
  cases y with
  | byt j=>obtain⟨t',rfl⟩:=ry;exact PySem.W.ne_bytes (yK I q (congrArg not zfi))
  | _=>exact absurd (show false=true from hs) zrw
 | _=>cases y<;>exact absurd (show false=true from hs) zrw
theorem zfj:Uq X (compareOp .Lt) (rI0 fun i j=>.bl (decide (i<j))):=zkx fun _ _ _ _ _ _ _ q=>lt_int q
theorem Jr:Uq X (compareOp .Gt) (rI0 fun i j=>.bl (decide (j<i))):=zkx fun _ _ _ _ _ _ _ q=>gt_int q
theorem zjX:Uq X (compareOp .GtE) (rI0 fun i j=>.bl (decide (j<=i))):=zkx fun _ _ _ _ _ _ _ q=>ge_int q
theorem zQ (b:Expr){op:CmpOp}(h:op≠.In:=by decide)(h2:op≠.NotIn:=by decide):behindInMarks op b=false:=by
 have e1:(op==CmpOp.In)=false:=by cases op<;>first | rfl | exact absurd rfl h
 have e2:(op==CmpOp.NotIn)=false:=by cases op<;>first | rfl | exact absurd rfl h2
 cases b<;>simp[behindInMarks,e1,e2]
theorem YK {op:CmpOp}{r:R2}(ho:Uq X (compareOp op) r)(ha:PE X a ta)(hb:PE X b tb)(hm:behindInMarks op b=false):PE X (.Compare a [op] [b] pos) (tOp r ta tb):=by
 intro pins s σ H Q I h
 exact wpAny_Compare1 (zkw ha hb I h fun v u s2 x y H2 I2 rx ry q=>ho pins s2 σ H2 x y v u Q I2 rx ry q) hm
inductive zlV (x:V)(k:Bool->Prop):Prop
 | mk (c:Bool) (_:x=.bl c) (_:k c):zlV x k
def zlW (t:TE):TT:=fun σ H Q=>t σ H fun x H'=>zlV x fun k=>Q k H'
theorem zL {op:CmpOp}{r:R2}(ho:Uq X (compareOp op) r)(ha:PE X a ta)(hb:PE X b tb)(hm:behindInMarks op b=false):PT X (.Compare a [op] [b] pos) (zlW (tOp r ta tb)):=by
 intro pins s σ H Q I h
 refine wpAny_isTrue_Compare1 (wQ (ha pins s σ H _ I h) fun v s1 ⟨x,H1,I1,r1,q1⟩=>wQ (hb pins s1 σ H1 _ I1 q1) fun u s2 ⟨y,H2,I2,r2,q2⟩ =>
  wQ (ho pins s2 σ H2 x y v u _ I2 r1 r2 q2) fun c s3 ⟨z,H3,I3,r3,k,e,q3⟩=>?_) hm
 subst e
 cases r3
 exact wpAny_truthy_bool ⟨H3,I3,q3⟩
def zlX (K:Frag)(x:V)(H:Hp)(k:Bool):Prop :=
 match x with
 | .non=>k=false
 | .bl b=>k=b
 | .int i=>k=(i != 0)
 | .str y=>y.length<=sizeLine/\k=((y.length:Int) != 0)
 | .byt y=>y.size<=sizeLine/\k=((y.size:Int) != 0)
 | .ref p=>(∃xs,zX K H p xs/\k=!xs.isEmpty)\/(∃xs,vp K H p xs/\k=!xs.isEmpty)\/∃kvs,H p=some (.dK kvs)/\k=!kvs.isEmpty
 | _=>False
theorem zel {κ:Type}{kvs:List (κ×V)}{vs:List (κ×Value)}(r:KV kvs vs):(!vs.isEmpty)=!kvs.isEmpty:=by
 cases r<;>rfl
theorem Js {xs:List V}{its:List Value}(r:Vals xs its):(!its.toArray.isEmpty)=!xs.isEmpty:=by
 cases r<;>simp
theorem Ux:(sizeLine:Nat)<2^63:=by rw[sizeLine_eq];decide
theorem zkD:znE X (fun x H Q=>∃k,zlX X.K x H k/\Q k H):=by
 intro pins s σ H x v Q I rx h
 obtain⟨k,e,q⟩:=h
 have hl:=Ux
 have hs:sizeLine=16777216:=sizeLine_eq
 cases x with
 | non =>
  cases rx
  have e':k=false:=e
  subst e'
  exact truthy_none ⟨H,I,q⟩
 | bl b =>
  cases rx
  have e':k=b:=e
  subst e'
  exact wpAny_truthy_bool ⟨H,I,q⟩
 | int i =>
  obtain⟨t,rfl⟩:=rx
  have e':k=(i != 0):=e
  subst e'
  exact PySem.P.truthy_int ⟨H,I,q⟩
 | str y =>
  obtain⟨t,rfl⟩:=rx
  obtain⟨hy,e'⟩:y.length<=sizeLine/\k=((y.length:Int) != 0):=e
  subst e'
  exact PySem.P.truthy_str (by omega) ⟨H,I.tok _,q⟩
 | byt y =>
  obtain⟨t,rfl⟩:=rx
  obtain⟨hy,e'⟩:y.size<=sizeLine/\k=((y.size:Int) != 0):=e
  subst e'
  exact PySem.W.truthy_bytes (by omega) ⟨H,I.tok _,q⟩
 | ref p =>
  cases rx
  have e':(∃xs,zX X.K H p xs/\k=!xs.isEmpty)\/(∃xs,vp X.K H p xs/\k=!xs.isEmpty)\/∃kvs,H p=some (.dK kvs)/\k=!kvs.isEmpty:=e
  rcases e' with ⟨xs,hx,e'⟩ | ⟨xs,hx,e'⟩ | ⟨kvs,hx,e'⟩
  ·subst e'
   obtain⟨its,r,pl,hz⟩:=I.list hx
   have hlen:=r.length
   exact wpAny_truthy_list pl.isList (by simp only[zrC];omega) ⟨H,I.tok _,by rw[Js r];exact q⟩
  ·subst e'
   obtain⟨its,r,pl,hz⟩:=I.tuple hx
   have hlen:=r.length
   exact truthy_tuple pl (by simp only[zrC];omega) ⟨H,I.tok _,by rw[Js r];exact q⟩
  ·subst e'
   obtain⟨hz,hS,vs,r,m⟩:kvs.length<=sizeLine/\(p==sysModules)=false/\∃vs,KV kvs vs/\s.heap.DictOf (yc X.prog X.w) p vs:=I.hok p _ hx
   have hlen:kvs.length=vs.length:=Paired.length r
   exact wpAny_truthy_dict hS m (by omega) ⟨H,I.tok _,by rw[zel r];exact q⟩
 | _=>exact(show False from e).elim
theorem Ys (ha:PE X a ta)(he:∀whole,isTrue a X.env whole=(do let v <-whole;standAt a.pos;holding [v] (truthy v))) :
  PT X a (fun σ H Q=>ta σ H fun x H'=>∃k,zlX X.K x H' k/\Q k H'):=by
 intro pins s σ H Q I h
 exact isTrue_plain (wQ (ha pins s σ H _ I h) fun v s1 ⟨x,H1,I1,r1,q1⟩=>zkD pins s1 σ H1 x v Q I1 r1 q1) (he _)
theorem Xg:Uq X (binaryOp .Add) (fun x y H Q=>∃i j,x=.str i/\y=.str j/\i.length+j.length<=sizeLine/\Q (.str (i++j)) H):=by
 intro pins s σ H x y v u Q I rx ry h
 obtain⟨i,j,rfl,rfl,hz,q⟩:=h
 obtain⟨t,rfl⟩:=rx
 obtain⟨t',rfl⟩:=ry
 exact add_str (fun t' tk=>⟨.str (i++j),H,I.tok _,⟨_,rfl⟩,q⟩) hz
theorem vals1 {x:V}{us:List Value}(r:Vals [x] us):∃u,us=[u]/\RelV x u:=by
 cases r with
 | cons r1 r2=>cases r2;exact⟨_,rfl,r1⟩
theorem vals2 {x y:V}{us:List Value}(r:Vals [x,y] us):∃u w',us=[u,w']/\RelV x u/\RelV y w':=by
 cases r with
 | cons r1 r2 =>
  cases r2 with
  | cons r3 r4=>cases r4;exact⟨_,_,rfl,r1,r3⟩
theorem zf5:YF X (.type "int") (fun xs H Q=>(∃i,xs=[.int i]/\Q (.int i) H)\/∃k,xs=[.bl k]/\Q (.int (if k then 1 else 0)) H):=by
 intro pins s σ H xs us Q I r h
 rcases h with ⟨i,rfl,q⟩ | ⟨k,rfl,q⟩
 ·obtain⟨u,rfl,t,rfl⟩:=vals1 r
  exact call_int_int ⟨.int i,H,I,⟨_,rfl⟩,q⟩
 ·obtain⟨u,rfl,r1⟩:=vals1 r
  cases r1
  exact call_int_bool ⟨.int (if k then 1 else 0),H,I.tok _,⟨_,rfl⟩,q⟩
end
structure zem (h:Heap)(x dx C:Addr)(mA:Str->Option Value):Prop where
 obj:h.get? x=some (PySem.W.instObj C dx)
 ns:h.Ns1 dx mA
 ne:dx≠x
theorem zf6 {h:Heap}{dx:Addr}{mA:Str->Option Value}(n:h.Ns1 dx mA):∃od,h.get? dx=some od/\∀name,PySem.W.lookIn name od=some (mA name):=by
 obtain⟨o,es,ep,ho,hd,hk,_,hm⟩:=n
 refine⟨o,ho,fun name=>?_⟩
 have e:=hm name
 unfold nsFind findBy at e
 rw[<-Array.find?_toList] at e
 unfold PySem.W.lookIn
 rw[hd]
 dsimp only
 split
 ·rename_i y q
  rw[q] at e
  exact congrArg some e
 ·rename_i q
  rw[q] at e
  have a:es.toList.any (·.refKey)=false:=by
   rw[List.any_eq_false]
   intro y hy
   obtain⟨z,t,hkey⟩:=hk y (Array.mem_toList_iff.mp hy)
   simp[DictEntry.refKey,hkey]
  have a':¬es.toList.any (·.refKey)=true:=by rw[a];exact zrw
  rw[if_neg a']
  exact congrArg some e
theorem zem.look {h:Heap}{x dx C:Addr}{mA:Str->Option Value}(I:zem h x dx C mA):∃od,PySem.W.InstAt h x (PySem.W.instObj C dx) C (some od)/\∀name,PySem.W.lookIn name od=some (mA name) :=
 let ⟨od,ho,hl⟩:=zf6 I.ns
 ⟨od,⟨I.obj,rfl,rfl,ho⟩,hl⟩
section
variable {prog:Program}{w:World}{A:Around}{E:Value->Shared->Prop}{s:Shared}{K:Frag}{x dx C f:Addr}{mA:Str->Option Value}{name:Str}{v:Value}
theorem get_map {expr:Bool}{Q:Value->Shared->Prop}(X:K.In s.heap)(I:zem s.heap x dx C mA)(hg:PySem.W.plainGet K C name=true)(hh:PySem.W.hasDictIn K C=true)
  (ha:findIn K (.ref C) name=some none)(hv:mA name=some v)(hv':PySem.W.handedIn v=true)(h:Q v { s with toks:=s.toks+1 }) :
  wpAny (model prog w) A (getAttr (.ref x) name expr) Q E s:=by
 obtain⟨od,J,hl⟩:=I.look
 exact PySem.W.get_value X J (PySem.W.plainGet_of hg).1 (PySem.W.findObj_own hh ha rfl (by rw[hl,hv])) hv' h
theorem zgU {pl:Sem Bool}{Q:Value×List Value->Shared->Prop}(X:K.In s.heap)(I:zem s.heap x dx C mA)(hg:PySem.W.plainGet K C name=true)
  (hf:findIn K (.ref C) name=some (some (.ref f)))(ht:PySem.W.isFn K (.ref f)=true)(hv:mA name=none)(h:Q (.ref f,[.ref x]) s) :
  wpAny (model prog w) A (getMethod (.ref x) name pl) Q E s:=by
 obtain⟨od,J,hl⟩:=I.look
 exact PySem.W.method_fn X J (PySem.W.plainGet_of hg).1 (PySem.W.plainGet_of hg).2 hf (beq_iff_eq.mp ht) (by show(PySem.W.lookIn name od).map (·.isSome)=some false;rw[hl,hv];rfl) h
theorem zis {ns:List Str}{Q:Unit->Shared->Prop}(X:K.In s.heap)(I:zem s.heap x dx C mA)
  (hs:findIn K (.ref C) "__setattr__"=some (some (.builtin "object.__setattr__")))(hp:PySem.W.plainOver K C=true)(ht:PySem.W.takerIn K C name=some none)(hh:PySem.W.hasDictIn K C=true)
  (hw:PySem.Within mA ns)(hsz:ns.length<=sizeLine)
  (h:∀h',zem h' x dx C (fun y=>if y=name then some v else mA y)->Heap.SameBut dx s.heap h'->Q () { s with heap:=h',toks:=s.toks+2 }) :
  wpAny (model prog w) A (setAttr (.ref x) name v) Q E s:=by
 obtain⟨od,J,hl⟩:=I.look
 refine PySem.W.set_plain X J hs (PySem.W.osa_open (s:={ s with toks:=s.toks+1 }) (r:=none) X J hp ht fun b=>?_)
 obtain⟨cd,hc,hd'⟩:=PySem.W.any_some hh
 have hx:s.heap.get? x=some ⟨.ref C,some dx,.plain,#[]⟩:=I.obj
 refine wpAny_bind (wpAny_pure (wpAny_bind (wpAny_bind (wpAny_loadPart hx (wpAny_bind (PySem.W.Looks.here (s:={ s with toks:=s.toks+1 }) (PySem.W.looks_clsIn X hc) ?_))))))
 rw[hd']
 refine wpAny_pure (a:=some dx) (wpAny_bind (wpAny_pure (wpAny_bind ?_)))
 refine wpAny_nsSet1 (s:={ s with toks:=s.toks+1 }) I.ns fun h' hn2 hs2=>?_
 obtain⟨oD,esD,epD,hoD,hdD,hcD⟩:=hn2.count (PySem.Within.cons name v hw)
 refine wpAny_bind (wpAny_lookBehind hoD (by rw[hdD];exact pastItsLine_dict (zrO hcD (by rw[zrE];omega))) ?_)
 exact wpAny_pure (h _ ⟨(hs2.2 _ (Ne.symm I.ne)).trans I.obj,hn2,I.ne⟩ hs2)
theorem zgV {R:Result->Shared->Prop}{vs:List Value}{kw:List (Str×Value)}(X:K.In s.heap)(hm:PySem.W.makesIn K C=true)
  (hi:findIn K (.ref C) "__init__"=some (some (.ref f)))(hf:PySem.W.typeIn K (.ref f)=some (.type "function"))
  (h:codeAny (model prog w) (A.under (.builtin "type.__call__" ⟨.ref C::vs,kw⟩)) (.call (.ref f) ⟨.ref (s.heap.objs.size+1)::vs,kw⟩) (PySem.W.InitBack (s.heap.objs.size+1) R)
   {s with heap:=(s.heap.push PySem.W.emptyDict).push (PySem.W.instObj C s.heap.objs.size) }) :
  codeAny (model prog w) A (.call (.ref C) ⟨vs,kw⟩) R s:=by
 obtain⟨hh,g,d,t,os⟩:=s
 exact PySem.W.make_core (PySem.W.makes_of X hm) (PySem.W.looks_findIn X hi) (fun self=>PySem.W.bind_fn X self hf) (.inl rfl) h
end
def ZS (f:Str)(v:V):List (Str×V)->List (Str×V)
 | []=>[(f,v)]
 | (g,x)::r=>if g=f then (g,v)::r else (g,x)::ZS f v r
theorem Lk (f g:Str)(v:V):∀fs:List (Str×V),(ZS f v fs).lookup g=if g=f then some v else fs.lookup g
 | []=>by
  show List.lookup g [(f,v)]=_
  by_cases h:g=f
  ·have hb:(g==f)=true:=beq_iff_eq.mpr h
   simp only[List.lookup,hb,if_pos h]
  ·have hb:(g==f)=false:=beq_eq_false_iff_ne.mpr h
   simp only[List.lookup,hb,if_neg h]
 | (k,x)::r=>by
  have ih:=Lk f g v r
  rw[show ZS f v ((k,x)::r)=(if k=f then (k,v)::r else (k,x)::ZS f v r) from rfl]
  by_cases hk:k=f
  ·rw[if_pos hk]
   by_cases h:g=k
   ·have hb:(g==k)=true:=beq_iff_eq.mpr h
    simp only[List.lookup,hb,if_pos (h.trans hk)]
   ·have hb:(g==k)=false:=beq_eq_false_iff_ne.mpr h
    simp only[List.lookup,hb,if_neg (fun e:g=f=>h (e.trans hk.symm))]
  ·rw[if_neg hk]
   by_cases h:g=k
   ·have hb:(g==k)=true:=beq_iff_eq.mpr h
    simp only[List.lookup,hb,if_neg (fun e:g=f=>hk (h.symm.trans e))]
   ·have hb:(g==k)=false:=beq_eq_false_iff_ne.mpr h
    simp only[List.lookup,hb]
    exact ih
theorem N8 (f:Str)(v:V):∀fs:List (Str×V),f∈(ZS f v fs).map (·.1)/\∀g,g∈fs.map (·.1)->g∈(ZS f v fs).map (·.1)
 | []=>⟨by simp[ZS],fun g h=>by simp at h⟩
 | (k,x)::r=>by
  obtain⟨i1,i2⟩:=N8 f v r
  rw[show ZS f v ((k,x)::r)=(if k=f then (k,v)::r else (k,x)::ZS f v r) from rfl]
  by_cases hk:k=f
  ·rw[if_pos hk]
   subst hk
   exact⟨by simp,fun g h=>by simpa using h⟩
  ·rw[if_neg hk]
   refine⟨?_,fun g h=>?_⟩
   ·rw[zrR]
    exact zrD _ i1
   ·rw[zrR] at h ⊢
    rcases List.mem_cons.mp h with e | e
    ·exact List.mem_cons.mpr (.inl e)
    ·exact zrD _ (i2 g e)
theorem Ln (f:Str)(v:V):∀fs:List (Str×V),(ZS f v fs).length<=fs.length+1
 | []=>by simp[ZS]
 | (k,x)::r=>by
  have ih:=Ln f v r
  rw[show ZS f v ((k,x)::r)=(if k=f then (k,v)::r else (k,x)::ZS f v r) from rfl]
  by_cases hk:k=f
  ·rw[if_pos hk,zrE,zrE];omega
  ·rw[if_neg hk,zrE,zrE];omega
theorem Ur.some_of {v:V}{o:Option Value}(r:Ur (some v) o):∃u,o=some u/\RelV v u:=by
 cases o with
 | none=>exact(show False from r).elim
 | some u=>exact⟨u,rfl,r⟩
theorem Ur.none_of {o:Option Value}(r:Ur none o):o=none:=by
 cases o with
 | none=>rfl
 | some u=>exact(show False from r).elim
theorem zf7 {v:V}{u:Value}(r:RelV v u):PySem.W.handedIn u=true:=by
 cases v with
 | non=>cases (show u=Value.none from r);rfl
 | bl b=>cases (show u=Value.bool b from r);rfl
 | int i=>obtain⟨t,e⟩:=(show ∃t,u=Value.int i t from r);cases e;rfl
 | str x=>obtain⟨t,e⟩:=(show ∃t,u=Value.str x t from r);cases e;rfl
 | byt b=>obtain⟨t,e⟩:=(show ∃t,u=Value.bytes b t from r);cases e;rfl
 | flt b=>obtain⟨t,e⟩:=(show ∃t,u=Value.float b t from r);cases e;rfl
 | ref a=>cases (show u=Value.ref a from r);rfl
 | ty n=>cases (show u=Value.type n from r);rfl
section
variable {P:Program}{w:World}{H H':Hp}{h h':Heap}{a C dx:Addr}{fs fs':List (Str×V)}
theorem K7 (hok:S9 P w H h)(e:H a=some (.ins C dx fs)):∃mA,zem h a dx C mA/\(∀f,Ur (fs.lookup f) (mA f))/\PySem.Within mA (fs.map (·.1))/\fs.length<=1000/\H dx=some (.own a):=by
 obtain⟨d,z,ne,ob,mA,n,r,q⟩:=(show wM P w H h a (.ins C dx fs) from hok a _ e)
 exact⟨mA,⟨ob,n,ne⟩,r,q,z,d⟩
end
structure Cls (K:Frag)(C:Addr):Prop where
 pg:PySem.W.plainGet K C Str.empty=true
 hd:PySem.W.hasDictIn K C=true
 po:PySem.W.plainOver K C=true
 sa:findIn K (.ref C) "__setattr__"=some (some (.builtin "object.__setattr__"))
theorem Cls.get {K:Frag}{C:Addr}(c:Cls K C)(f:Str):PySem.W.plainGet K C f=true:=c.pg
def Xh (K:Frag)(C:Addr)(f:Str):Prop:=findIn K (.ref C) f=some none
theorem Xh.taker {K:Frag}{C:Addr}{f:Str}(n:Xh K C f):PySem.W.takerIn K C f=some none:=by
 unfold PySem.W.takerIn
 rw[show findIn K (.ref C) f=some none from n]
 rfl
structure Meth (K:Frag)(C:Addr)(m:Str)(f:Addr):Prop where
 at_:findIn K (.ref C) m=some (some (.ref f))
 fn:PySem.W.isFn K (.ref f)=true
 kp:PySem.W.keepIn K (.ref f)=true
section
variable {X:Cx}{pins:List (Addr×Obj)}{σ:St}{H:Hp}{s:Shared}{a C dx:Addr}{fs:List (Str×V)}{f:Str}{v:V}{A:Around}{E:Value->Shared->Prop}
theorem zen {b:Bool}{Q:Value->Shared->Prop}(I:Inv X pins σ H s)(e:H a=some (.ins C dx fs))(c:Cls X.K C)(n:Xh X.K C f)(l:fs.lookup f=some v)
  (h:∀u s',Inv X pins σ H s'->RelV v u->Q u s'):wpAny (model X.prog X.w) A (getAttr (.ref a) f b) Q E s:=by
 obtain⟨mA,O,r,_,_,_⟩:=K7 I.hok e
 obtain⟨u,hu,ru⟩:=Ur.some_of (v:=v) (o:=mA f) (by rw[<-l];exact r f)
 exact get_map I.N6 O (c.get f) c.hd n hu (zf7 ru) (h u _ (I.tok _) ru)
theorem RJ {m:Str}{g:Addr}{pl:Sem Bool}{Q:Value×List Value->Shared->Prop}(I:Inv X pins σ H s)(e:H a=some (.ins C dx fs))(c:Cls X.K C)(k:Meth X.K C m g)(l:fs.lookup m=none)
  (h:Q (.ref g,[.ref a]) s):wpAny (model X.prog X.w) A (getMethod (.ref a) m pl) Q E s:=by
 obtain⟨mA,O,r,_,_,_⟩:=K7 I.hok e
 have hn:mA m=none:=Ur.none_of (by rw[<-l];exact r m)
 exact zgU I.N6 O (c.get m) k.at_ k.fn hn h
theorem zeo {y:V}{u:Value}{Q:Unit->Shared->Prop}(I:Inv X pins σ H s)(e:H a=some (.ins C dx fs))(c:Cls X.K C)(n:Xh X.K C f)(hl:fs.length<1000)(ry:RelV y u)
  (h:∀s',Inv X pins σ (upd H a (.ins C dx (ZS f y fs))) s'->Q () s'):wpAny (model X.prog X.w) A (setAttr (.ref a) f u) Q E s:=by
 obtain⟨mA,O,r,wi,_,ho⟩:=K7 I.hok e
 have hz:(fs.map (·.1)).length<=sizeLine:=by rw[zrs,sizeLine_eq];omega
 refine zis I.N6 O c.sa c.po n.taker c.hd wi hz fun h' O' sb=>h _ ?_
 have hd:∃o,h'.get? dx=some o:=let ⟨o,_,_,e',_⟩:=O'.ns;⟨o,e'⟩
 refine I.write (x:=a) (e:=dx) (by rw[e];exact True.intro) (.inr ho) (fun b q hb z=>(sb.2 b hb).trans z) hd ?_
 refine⟨by rw[zB O.ne];exact ho,?_,O.ne,O'.obj,_,O'.ns,fun g=>?_,fun g hg=>?_⟩
 ·have:=Ln f y fs;omega
 ·show Ur ((ZS f y fs).lookup g) (if g=f then some u else mA g)
  rw[Lk]
  by_cases q:g=f
  ·rw[if_pos q,if_pos q];exact ry
  ·rw[if_neg q,if_neg q];exact r g
 ·by_cases q:g=f
  ·rw[q];exact(N8 f y fs).1
  ·refine(N8 f y fs).2 g (wi g fun z=>hg ?_)
   show(if g=f then some u else mA g)=none
   rw[if_neg q];exact z
theorem Inv.made (I:Inv X pins σ H s):Inv X pins σ (upd (upd H s.heap.objs.size (.own (s.heap.objs.size+1))) (s.heap.objs.size+1) (.ins C s.heap.objs.size []))
  {s with heap:=(s.heap.push PySem.W.emptyDict).push (PySem.W.instObj C s.heap.objs.size) }:=by
 have e1:(s.heap.push PySem.W.emptyDict).get? s.heap.objs.size=some PySem.W.emptyDict:=zrN s.heap rfl
 have e2:((s.heap.push PySem.W.emptyDict).push (PySem.W.instObj C s.heap.objs.size)).get? (s.heap.objs.size+1)=some (PySem.W.instObj C s.heap.objs.size):=by
  have:=zrN (s.heap.push PySem.W.emptyDict) (o:=PySem.W.instObj C s.heap.objs.size) rfl
  rwa [Heap.size_push] at this
 have e3:(s.heap.push PySem.W.emptyDict).Ns s.heap.objs.size (fun _=>none):=⟨PySem.W.emptyDict,#[],_,e1,rfl,(fun e he=>absurd he (by simp)),fun _=>rfl⟩
 have I1:=I.laid (a:=s.heap.objs.size) (o:=.own (s.heap.objs.size+1)) (h':=s.heap.push PySem.W.emptyDict) (t':=s.toks) (fun b u q=>zry _ q) (zrI _) ⟨_,e1⟩
 refine I1.laid (a:=s.heap.objs.size+1) (o:=.ins C s.heap.objs.size []) (t':=s.toks) (fun b u q=>zry _ q) (Nat.le_of_eq (Heap.size_push _ _)) ?_
 have ne:s.heap.objs.size≠s.heap.objs.size+1:=zrH (Nat.lt_succ_self _)
 refine⟨by rw[zB ne,zj],zrP _,ne,e2,fun _=>none,(Heap.Ns1.of_empty e3).at fun o q=>zry _ q,fun _=>True.intro,fun y hy=>absurd rfl hy⟩
theorem zit {prog:Program}{w:World}{env:Env}{e:Expr}{f:Str}{pos:Pos}{s:Shared}{Q:Value->Shared->Prop}(hb:attributeBase e f env (eval e env)=eval e env)
  (h:wpAny (model prog w) A (eval e env) (fun o s₁=>wpAny (model prog w) A (getAttr o f true) Q E s₁) E s):wpAny (model prog w) A (eval (.Attribute e f pos) env) Q E s :=
 Attribute_any_ h (by rw[arm_eval_Attribute,hb])
end
def znH (K:Frag)(ta:TE)(f:Str):TE:=fun σ H Q=>ta σ H fun x H1=>∃a C dx fs v,x=.ref a/\H1 a=some (.ins C dx fs)/\Cls K C/\Xh K C f/\fs.lookup f=some v/\Q v H1
def znI (K:Frag)(ta tv:TE)(f:Str):TS:=fun D σ H=>tv σ H fun y H1=>ta σ H1 fun x H2=>∃a C dx fs,x=.ref a/\H2 a=some (.ins C dx fs)/\Cls K C/\Xh K C f/\fs.length<1000 /\
 D.nx σ (upd H2 a (.ins C dx (ZS f y fs)))
section
variable {X:Cx}{o e value:Expr}{f:Str}{pos pos' tpos:Pos}{ta tv:TE}
theorem uR (he:PE X e ta)(hb:attributeBase e f X.env (eval e X.env)=eval e X.env):PE X (.Attribute e f pos) (znH X.K ta f):=by
 intro pins s σ H Q I h
 refine zit hb (wQ (he pins s σ H _ I h) fun u s1 ⟨x,H1,I1,rx,a,C,dx,fs,v,ex,ea,c,n,l,q⟩=>?_)
 subst ex
 obtain rfl:u=Value.ref a:=rx
 exact zen I1 ea c n l fun u' s2 I2 ru=>⟨v,H1,I2,ru,q⟩
theorem zbO (ha:PE X o ta)(hv:PE X value tv)(hs:swapsWith value (some (.Attribute o f pos')) pos.line X.env=pure false):PS X (.Assign [.Attribute o f pos'] value pos) (znI X.K ta tv f):=by
 intro pins s σ H D I h
 refine plainObj_wpAny_Assign_Attribute (wQ (hv pins s σ H _ I h) fun u s1 ⟨y,H1,I1,ry,q⟩=>wQ (ha pins s1 σ H1 _ I1 q) fun ov s2 ⟨x,H2,I2,rx,a,C,dx,fs,ex,ea,c,n,l,q2⟩=>?_) hs
 subst ex
 obtain rfl:ov=Value.ref a:=rx
 exact zeo I2 ea c n l ry fun s3 I3=>⟨σ,_,I3,q2⟩
theorem zjY {pl:Sem Bool}{m:Str}{apos:Pos}{args:List Expr}{pins:List (Addr×Obj)}{s:Shared}{σ:St}{H:Hp}{Q:Value->Shared->Prop}{te:TE}(he:PE X e te)(I:Inv X pins σ H s)
  (h:te σ H fun x H1=>∃a C dx fs g,x=.ref a/\H1 a=some (.ins C dx fs)/\Cls X.K C/\Meth X.K C m g/\fs.lookup m=none /\
   ∀s1,Inv X pins σ H1 s1->wpAny (model X.prog X.w) X.A (callWith pos (.ref g) [.ref a] (backTo pos (starEach args X.env)) (backToKw pos (keywordEach [] X.env))) Q X.xe s1)
  (ht:eval (.Call (.Attribute e m apos) args [] pos) X.env=(do
   let ov <-eval e X.env
   standAt apos.atName
   let (f,first) <-holding [ov] (getMethod ov m pl)
   callWith pos f first (backTo pos (starEach args X.env)) (backToKw pos (keywordEach [] X.env)))) :
  wpAny (model X.prog X.w) X.A (eval (.Call (.Attribute e m apos) args [] pos) X.env) Q X.xe s:=by
 refine PySem.W.methodCall_KW (pl:=pl) (wQ (he pins s σ H _ I h) fun u s1 ⟨x,H1,I1,rx,a,C,dx,fs,g,ex,ea,c,k,l,q⟩=>?_) ht
 subst ex
 obtain rfl:u=Value.ref a:=rx
 exact RJ I1 ea c k l (q s1 I1)
end
section
variable {X:Cx}{pins:List (Addr×Obj)}{σ:St}{H:Hp}{s:Shared}{A:Around}{E:Value->Shared->Prop}{Q:Value->Shared->Prop}{c:Value}{b:Bool}
inductive Qy (K:Frag)(H:Hp):V->Value->Prop where
 | non:Qy K H .non (.type "NoneType")
 | bl (x:Bool):Qy K H (.bl x) (.type "bool")
 | int (i:Int):Qy K H (.int i) (.type "int")
 | str (x:Str):Qy K H (.str x) (.type "str")
 | flt (x:UInt64):Qy K H (.flt x) (.type "float")
 | lst {a:Addr} {xs:List V} (e:H a=some (.lst xs)):Qy K H (.ref a) (.type "list")
 | Ji {a:Addr} {o:Obj} {xs:List V} (e:H a=some (.Ji o (.lst xs))):Qy K H (.ref a) (.type "list")
 | tup {a:Addr} {xs:List V} (e:H a=some (.tup xs)):Qy K H (.ref a) (.type "tuple")
 | dK {a:Addr} {kvs:List (Key×V)} (e:H a=some (.dK kvs)):Qy K H (.ref a) (.type "dict")
 | dT {a:Addr} {kvs:List (List Key×V)} (e:H a=some (.dT kvs)):Qy K H (.ref a) (.type "dict")
 | ins {a C dx:Addr} {fs:List (Str×V)} (e:H a=some (.ins C dx fs)) (cl:Cls K C) (ha:findIn K (.ref C) "__class__"=some (some (.builtin "object.__class__")))
   (hn:PySem.W.specialIn K (.builtin "object.__class__") "__get__"=some (some (.builtin "getset_descriptor.__get__"))) (htk:PySem.W.takesIn K (.builtin "object.__class__")=some true)
   (hm:PySem.W.mroIn K C (.type "object")=some true):Qy K H (.ref a) (.ref C)
theorem zf8 {x:V}{u t:Value}(I:Inv X pins σ H s)(rx:RelV x u)(ty:Qy X.K H x t)(e:PySem.W.kitOne X.K t c=some b)(h:∀tk,Q (.bool b) { s with toks:=tk }) :
  wpAny (model X.prog X.w) A (call (.builtin "isinstance") [u,c]) Q E s:=by
 cases ty with
 | non=>cases (show u=Value.none from rx);exact PySem.W.kia_one PySem.W.kitx_none I.N6 True.intro e (fun z=>nomatch z) h
 | bl y=>cases (show u=Value.bool y from rx);exact PySem.W.kia_one PySem.W.kitx_bool I.N6 True.intro e (fun z=>nomatch z) h
 | int i=>obtain⟨t,q⟩:=(show ∃t,u=Value.int i t from rx);cases q;exact PySem.W.kia_one PySem.W.kitx_int I.N6 True.intro e (fun z=>nomatch z) h
 | str y=>obtain⟨t,q⟩:=(show ∃t,u=Value.str y t from rx);cases q;exact PySem.W.kia_one PySem.W.kitx_str I.N6 True.intro e (fun z=>nomatch z) h
 | flt y=>obtain⟨t,q⟩:=(show ∃t,u=Value.float y t from rx);cases q;exact PySem.W.kia_one PySem.W.kitx_float I.N6 True.intro e (fun z=>nomatch z) h
 | @lst a xs ea =>
  cases (show u=Value.ref a from rx)
  obtain⟨_,_,n,_,h1⟩:=(show wM X.prog X.w H s.heap a (.lst xs) from I.hok a _ ea)
  exact PySem.W.kia_one PySem.W.kitx_list I.N6 ⟨_,h1,rfl⟩ e (fun z=>nomatch z) h
 | @Ji a ob xs ea =>
  cases (show u=Value.ref a from rx)
  obtain⟨_,_,_,n,_,h1⟩:=(show wM X.prog X.w H s.heap a (.Ji ob (.lst xs)) from I.hok a _ ea)
  exact PySem.W.kia_one PySem.W.kitx_list I.N6 ⟨_,h1,rfl⟩ e (fun z=>nomatch z) h
 | @tup a xs ea =>
  cases (show u=Value.ref a from rx)
  obtain⟨_,_,_,p⟩:=(show wM X.prog X.w H s.heap a (.tup xs) from I.hok a _ ea)
  obtain⟨o,h1,h2,_⟩:=p
  exact PySem.W.kia_one PySem.W.kitx_tuple I.N6 ⟨o,h1,h2⟩ e (fun z=>nomatch z) h
 | @dK a kvs ea =>
  cases (show u=Value.ref a from rx)
  obtain⟨_,_,vs,_,p⟩:=(show wM X.prog X.w H s.heap a (.dK kvs) from I.hok a _ ea)
  obtain⟨o,es,ep,h1,h2,_⟩:=p
  exact PySem.W.kia_one PySem.W.kitx_dict I.N6 ⟨o,h1,h2.1⟩ e (fun z=>nomatch z) h
 | @dT a kvs ea =>
  cases (show u=Value.ref a from rx)
  obtain⟨_,_,xs,_,o,es,ep,h1,h2,_⟩:=(show wM X.prog X.w H s.heap a (.dT kvs) from I.hok a _ ea)
  exact PySem.W.kia_one PySem.W.kitx_dict I.N6 ⟨o,h1,h2.1⟩ e (fun z=>nomatch z) h
 | @ins a C dx fs ea cl ha hn htk hm =>
  cases (show u=Value.ref a from rx)
  obtain⟨mA,O,_⟩:=K7 I.hok ea
  obtain⟨od,J,_⟩:=O.look
  exact PySem.W.kia_one (PySem.W.kitx_own (cl.get _) cl.hd ha hn htk hm) I.N6 J e (fun z=>nomatch z) h
end
structure Zc (k:Nat)(A:Around):Prop where
 hd:A.handled=none
 gd:A.guards=some []
 dp:A.depth+3*k+5<recursionLimit
 un:A.units+16*k+200<cLine
theorem Zc.mono {j k:Nat}{A:Around}(r:Zc k A)(h:j<=k):Zc j A:=⟨r.hd,r.gd,by have:=r.dp;omega,by have:=r.un;omega⟩
theorem Zc.deeper {k:Nat}{A:Around}(r:Zc (k+1) A)(env:Env):Zc k (A.deeper env) :=
 ⟨r.hd,r.gd,by have:=r.dp;show A.depth+1+3*k+5<_;omega,by have:=r.un;show A.units+3+16*k+200<_;omega⟩
theorem zep {A:Around}{C:Addr}{us:List Value}{kw:List (Str×Value)}:(A.under (.builtin "type.__call__" ⟨.ref C::us,kw⟩)).depth=A.depth+1:=by
 first | rfl | simp[Around.under,Code.weight,Code.isCreation,Code.isGuard,Code.isCaller,Code.frames,Code.isFrame,guardIds]
theorem zeq {A:Around}{C:Addr}{us:List Value}{kw:List (Str×Value)}:(A.under (.builtin "type.__call__" ⟨.ref C::us,kw⟩)).units=A.units+1:=by
 first | rfl | simp[Around.under,Code.cUnits,Code.frames,Code.isFrame]
theorem Zc.make {k:Nat}{A:Around}(r:Zc (k+1) A)(C:Addr)(us:List Value)(kw:List (Str×Value)):Zc k (A.under (.builtin "type.__call__" ⟨.ref C::us,kw⟩)) :=
 ⟨r.hd,(by
  have e:(Code.builtin "type.__call__" ⟨.ref C::us,kw⟩).guards=[]:=by first | rfl | simp[Code.guards,Code.isGuard,guardIds]
  unfold Around.under
  simp only[e,pushGuards]
  exact r.gd),by have:=r.dp;rw[zep];omega,by have:=r.un;rw[zeq];omega⟩
theorem Zc.depth {k:Nat}{A:Around}(r:Zc k A):A.depth<recursionLimit:=by have:=r.dp;omega
theorem Zc.units {k:Nat}{A:Around}(r:Zc k A):A.units+64<cLine:=by have:=r.un;omega
def zc1:TA:=fun _ H Q=>Q [] H
def Qz (ta:TE)(tr:TA):TA:=fun σ H Q=>ta σ H fun x H1=>tr σ H1 fun xs H2=>Q (x::xs) H2
section
variable {X:Cx}{e:Expr}{es:List Expr}{te:TE}{t:TA}{pos:Pos}
theorem zc:PA X [] zc1:=fun _ _ _ _ H Q I h=>Calls.spliced_nil ⟨[],H,I,.nil,h⟩
theorem za (ha:PE X e te)(hr:PA X es t)(hs:starEach (e::es) X.env=(false,eval e X.env)::starEach es X.env:=by rfl):PA X (e::es) (Qz te t):=by
 intro pos pins s σ H Q I h
 rw[hs]
 show wpAny _ _ (spliced ((false,eval e X.env)::backTo pos (starEach es X.env))) _ _ s
 refine Calls.spliced_cons (wQ (ha pins s σ H _ I h) fun u s1 ⟨x,H1,I1,r1,q1⟩=>?_)
 exact wQ (hr pos pins s1 σ H1 _ I1 q1) fun us s2 ⟨xs,H2,I2,r2,q2⟩=>⟨x::xs,H2,I2,.cons r1 r2,q2⟩
def znJ (t:TA):TE:=fun σ H Q=>t σ H fun xs H1=>xs.length<=sizeLine/\∀p,H1 p=none->Q (.ref p) (upd H1 p (.tup xs))
def znK (t:TA):TE:=fun σ H Q=>t σ H fun xs H1=>xs.length<=sizeLine/\∀p,H1 p=none->Q (.ref p) (upd H1 p (.lst xs))
theorem uT {x1}(h:PA X es t):PE X (.Tuple es x1 pos) (znJ t):=by
 intro pins s σ H Q I hq
 refine wpAny_Tuple_spliced (wQ (h pos pins s σ H _ I hq) fun us s1 ⟨xs,H1,I1,r,z,q⟩=>⟨by rw[<-r.length];exact z,?_⟩)
 have hf:H1 s1.heap.objs.size=none:=I1.hok.fresh (zrI _)
 refine⟨.ref s1.heap.objs.size,upd H1 s1.heap.objs.size (.tup xs),I1.laid (t':=s1.toks) (fun b u e=>zry _ e) (zrI _) ?_,rfl,q _ hf⟩
 exact⟨z,us,r,⟨_,zrN _ rfl,rfl,_,rfl⟩⟩
theorem vY (h:PA X es t):PE X (.List es pos) (znK t):=by
 intro pins s σ H Q I hq
 refine wpAny_List_spliced (wQ (h pos pins s σ H _ I hq) fun us s1 ⟨xs,H1,I1,r,z,q⟩=>⟨by rw[<-r.length];exact z,?_⟩)
 have hf:H1 s1.heap.objs.size=none:=I1.hok.fresh (zrI _)
 refine⟨.ref s1.heap.objs.size,upd H1 s1.heap.objs.size (.lst xs),I1.laid (t':=s1.toks) (fun b u e=>zry _ e) (zrI _) ?_,rfl,q _ hf⟩
 exact⟨z,us,0,r,zrN _ rfl⟩
end
abbrev Sp:=List V->Hp->VK->XK->Prop
abbrev CXT:=List Env->Hp->Shared->XK->Value->Shared->Prop
structure zer (P:Program)(w:World)(K:Frag)(mg:Str->Option Value)(base:Heap)(A:Around)(outer:List Env)(s:Shared)(H:Hp):Prop where
 frames:A.frames=some outer
 mod:Mod K mg base
 bs:∀b o,base.get? b=some o->s.heap.get? b=some o/\H b=none
 bsz:base.objs.size<=s.heap.objs.size
 N5:s.heap.FunFrames base outer
 frf:∀b∈frs outer,H b=none
 hok:S9 P w H s.heap
 bare:AllBare s.gens
def CE (outer:List Env)(P:Program)(w:World)(H:Hp)(s:Shared)(Q:VK)(u:Value)(s':Shared):Prop :=
 ∃v H',s'.os=s.os/\AllBare s'.gens/\Un (frs outer) [] H H' s.heap s'.heap/\S9 P w H' s'.heap/\RelV v u/\Q v H'
def CR (CX:CXT)(outer:List Env)(P:Program)(w:World)(H:Hp)(s:Shared)(Q:VK)(E:XK)(r:Result)(s':Shared):Prop :=
 match r with
 | .ok (.ret u)=>CE outer P w H s Q u s'
 | .ok _=>False
 | .error e=>CX outer H s E e s'
structure zA (P:Program)(w:World)(K:Frag)(mg:Str->Option Value)(base:Heap)(CX:CXT)(k:Nat)(f:Addr)(fd:FuncData)(ps:List Str)(sp:Sp):Prop where
 len:∀vs H Q E,sp vs H Q E->vs.length=ps.length
 run:∀(A:Around) (outer:List Env) (s:Shared) (H:Hp) (args:Args) (us:List Value) (vs:List V) (Q:VK) (E:XK),Zc k A->zer P w K mg base A outer s H->BindsTo s fd args (ps.zip us)->Vals vs us->sp vs H Q E ->
  codeAny (model P w) A (.call (.ref f) args) (CR CX outer P w H s Q E) s
theorem zA.mono {P:Program}{w:World}{K:Frag}{mg:Str->Option Value}{base:Heap}{CX:CXT}{j k:Nat}{f:Addr}{fd:FuncData}{ps:List Str}{sp:Sp}(F:zA P w K mg base CX j f fd ps sp)(h:j<=k) :
  zA P w K mg base CX k f fd ps sp:=⟨F.len,fun A outer s H args us vs Q E hr=>F.run A outer s H args us vs Q E (hr.mono h)⟩
theorem zer.make {P:Program}{w:World}{K:Frag}{mg:Str->Option Value}{base:Heap}{A:Around}{outer:List Env}{s:Shared}{H:Hp}(e:zer P w K mg base A outer s H)(C:Addr)(us:List Value)(kw:List (Str×Value)) :
  zer P w K mg base (A.under (.builtin "type.__call__" ⟨.ref C::us,kw⟩)) outer s H:=⟨by first | exact e.frames | (simpa [Around.under,Code.envs,Code.isFrame,pushEnvs] using e.frames),e.mod,e.bs,e.bsz,e.N5,e.frf,e.hok,e.bare⟩
section
variable {X:Cx}{pins:List (Addr×Obj)}{σ:St}{H:Hp}{s s':Shared}
theorem Inv.env0 (I:Inv X pins σ H s):zer X.prog X.w X.K X.mg X.base X.A X.stack s H :=
 ⟨I.ok.frames,I.ok.mod,I.bs,zrO I.ok.bsz I.sz,I.stack,I.zfc,I.hok,I.bare⟩
theorem Inv.after {Q:VK}{u:Value}(I:Inv X pins σ H s)(h:CE X.stack X.prog X.w H s Q u s'):EP X pins σ Q u s':=by
 obtain⟨v,H',os,bare,un,hok,r,q⟩:=h
 obtain⟨hh,g,d,t,os'⟩:=s'
 obtain rfl:os'=s.os:=os
 exact⟨v,H',I.call (h':=hh) (g':=g) (d':=d) (t':=t) (ch:=[]) un hok bare (fun b z=>absurd z (by simp)),r,q⟩
end
def Jt (sp:Sp)(dvs:List V)(E:XK)(t:TA):TE:=fun σ H Q=>t σ H fun vs H1=>sp (vs++dvs) H1 Q E
def zfk (C:Addr)(m:Str)(sp:Sp)(dvs:List V)(E:XK)(ta:TE)(t:TA):TE:=fun σ H Q=>ta σ H fun x H1=>∃a dx fs,x=.ref a/\H1 a=some (.ins C dx fs)/\fs.lookup m=none /\
 t σ H1 fun vs H2=>sp (x::(vs++dvs)) H2 Q E
def zlY (C:Addr)(sp:Sp)(dvs:List V)(E:XK)(t:TA):TE:=fun σ H Q=>t σ H fun vs H1=>∀x dx,H1 x=none->H1 dx=none->dx≠x ->
 sp (.ref x::(vs++dvs)) (upd (upd H1 dx (.own x)) x (.ins C dx [])) (fun v H2=>v=.non/\Q (.ref x) H2) E
def Binds (K:Frag)(fd:FuncData)(ps:List Str)(ds:List Value):Prop :=
 ∀(s:Shared) (us:List Value),K.In s.heap->(us++ds).length=ps.length->BindsTo s fd ⟨us,[]⟩ (ps.zip (us++ds))
theorem Binds.all {K:Frag}{fd:FuncData}{ps:List Str}(h:∀us:List Value,us.length=ps.length->bindArgs fd ⟨us,[]⟩=pure (ps.zip us)):Binds K fd ps []:=fun s us _ hl=>by
 rw[List.append_nil] at hl ⊢
 exact .of_eq (h us hl)
def Passes (CX:CXT)(X:Cx)(E:XK):Prop:=∀(pins:List (Addr×Obj)) (σ:St) (H:Hp) (s:Shared) (e:Value) (s':Shared),Inv X pins σ H s->CX X.stack H s E e s'->X.xe e s'
section
variable {X:Cx}{CX:CXT}{k:Nat}{f C:Addr}{fd:FuncData}{ps:List Str}{sp:Sp}{dvs:List V}{ds:List Value}{E:XK}{x m:Str}{p pos apos:Pos}{e o:Expr}{es:List Expr}{ta:TE}{t:TA}
theorem zes {pins:List (Addr×Obj)}{σ:St}{H:Hp}{s:Shared}{Q:VK}{us:List Value}{vs:List V}(F:zA X.prog X.w X.K X.mg X.base CX k f fd ps sp)(hr:Zc k X.A)(hb:Binds X.K fd ps ds)(hd:Vals dvs ds)(hx:Passes CX X E)
  (I:Inv X pins σ H s)(r:Vals vs us)(h:sp (vs++dvs) H Q E):wpAny (model X.prog X.w) X.A (call (.ref f) us) (EP X pins σ Q) X.xe s:=by
 have r2:Vals (vs++dvs) (us++ds):=r.append hd
 have hl:(us++ds).length=ps.length:=by rw[<-r2.length];exact F.len _ _ _ _ h
 refine wpAny_call (codeAny_mono (F.run X.A X.stack s H ⟨us,[]⟩ (us++ds) (vs++dvs) Q E hr I.env0 (hb s us I.N6 hl) r2 h) fun r s' hq=>?_)
 cases r with
 | error e=>exact hx pins σ H s e s' I hq
 | ok fl =>
  cases fl with
  | ret u=>exact I.after hq
  | next=>exact False.elim hq
  | brk=>exact False.elim hq
  | cont=>exact False.elim hq
theorem ziu (F:zA X.prog X.w X.K X.mg X.base CX k f fd ps sp)(hr:Zc k X.A)(hg:Gl X x)(hm:X.mg x=some (.ref f))(hk:PySem.W.keepIn X.K (.ref f)=true)(hb:Binds X.K fd ps ds)(hd:Vals dvs ds)(hx:Passes CX X E)
  (ha:PA X (e::es) t)(hdb:(x==("__debug__" : Str))=false:=by decide)(he:starEach (e::es) X.env=(false,eval e X.env)::starEach es X.env:=by rfl)(hpl:(backTo pos (starEach es X.env)).any (·.1)=false:=by rfl) :
  PE X (.Call (.Name x p) (e::es) [] pos) (Jt sp dvs E t):=by
 intro pins s σ H Q I h
 refine wpAny_Call_Name_kw (zbL I hg hm ?_ hdb)
 refine PySem.W.callWith_K (h₀:=X.base) I.ok.mod.kin hk (wQ (ha pos pins s σ H _ I h) fun us s1 ⟨vs,H1,I1,r,q⟩=>⟨I1.N6,?_⟩) he hpl
 exact zes F hr hb hd hx I1 r q
theorem ziv {pl:Sem Bool}(he:PE X o ta)(c:Cls X.K C)(hm:Meth X.K C m f)(F:zA X.prog X.w X.K X.mg X.base CX k f fd ps sp)(hr:Zc k X.A)(hb:Binds X.K fd ps ds)(hd:Vals dvs ds)(hx:Passes CX X E)(ha:PA X (e::es) t)
  (hst:starEach (e::es) X.env=(false,eval e X.env)::starEach es X.env:=by rfl)(hpl:(backTo pos (starEach es X.env)).any (·.1)=false:=by rfl)
  (ht:eval (.Call (.Attribute o m apos) (e::es) [] pos) X.env=(do
   let ov <-eval o X.env
   standAt apos.atName
   let (f,first) <-holding [ov] (getMethod ov m pl)
   callWith pos f first (backTo pos (starEach (e::es) X.env)) (backToKw pos (keywordEach [] X.env))):=by rfl) :
  PE X (.Call (.Attribute o m apos) (e::es) [] pos) (zfk C m sp dvs E ta t):=by
 intro pins s σ H Q I h
 refine PySem.W.methodCall_KW (pl:=pl) (wQ (he pins s σ H _ I h) fun u s1 ⟨x,H1,I1,rx,a,dx,fs,ex,ea,l,q⟩=>?_) ht
 subst ex
 obtain rfl:u=Value.ref a:=rx
 refine RJ I1 ea c hm l ?_
 refine PySem.W.callWith_K (first:=[.ref a]) (h₀:=X.base) I.ok.mod.kin hm.kp (wQ (ha pos pins s1 σ H1 _ I1 q) fun us s2 ⟨vs,H2,I2,r,q2⟩=>⟨I2.N6,?_⟩) hst hpl
 exact zes (us:=.ref a::us) (vs:=.ref a::vs) F hr hb hd hx I2 (.cons rfl r) q2
theorem zgW {pl:Sem Bool}(he:PE X o ta)(c:Cls X.K C)(hm:Meth X.K C m f)(F:zA X.prog X.w X.K X.mg X.base CX k f fd ps sp)(hr:Zc k X.A)(hb:Binds X.K fd ps ds)(hd:Vals dvs ds)(hx:Passes CX X E)
  (ht:eval (.Call (.Attribute o m apos) [] [] pos) X.env=(do
   let ov <-eval o X.env
   standAt apos.atName
   let (f,first) <-holding [ov] (getMethod ov m pl)
   callWith pos f first (backTo pos (starEach [] X.env)) (backToKw pos (keywordEach [] X.env))):=by rfl) :
  PE X (.Call (.Attribute o m apos) [] [] pos) (zfk C m sp dvs E ta zc1):=by
 intro pins s σ H Q I h
 refine PySem.W.methodCall_KW (pl:=pl) (wQ (he pins s σ H _ I h) fun u s1 ⟨x,H1,I1,rx,a,dx,fs,ex,ea,l,q⟩=>?_) ht
 subst ex
 obtain rfl:u=Value.ref a:=rx
 refine RJ I1 ea c hm l ?_
 exact PySem.W.callWith_K0 (first:=[.ref a]) I1.N6 hm.kp (zes (us:=[.ref a]) (vs:=[.ref a]) F hr hb hd hx I1 (.cons rfl .nil) q)
structure Mk (K:Frag)(C f:Addr):Prop where
 makes:PySem.W.makesIn K C=true
 init:findIn K (.ref C) "__init__"=some (some (.ref f))
 fn:PySem.W.isFn K (.ref f)=true
 kp:PySem.W.keepIn K (.ref C)=true
theorem zgX {pins:List (Addr×Obj)}{σ:St}{H:Hp}{s:Shared}{Q:VK}{us:List Value}{vs:List V}(M:Mk X.K C f)(F:zA X.prog X.w X.K X.mg X.base CX k f fd ps sp)(hr:Zc (k+1) X.A)(hb:Binds X.K fd ps ds)(hd:Vals dvs ds)
  (hx:Passes CX X E)(I:Inv X pins σ H s)(r:Vals vs us)
  (h:∀x dx,H x=none->H dx=none->dx≠x->sp (.ref x::(vs++dvs)) (upd (upd H dx (.own x)) x (.ins C dx [])) (fun v H2=>v=.non/\Q (.ref x) H2) E) :
  wpAny (model X.prog X.w) X.A (call (.ref C) us) (EP X pins σ Q) X.xe s:=by
 have hq:=h (s.heap.objs.size+1) s.heap.objs.size (I.hok.fresh (Nat.le_succ _)) (I.hok.fresh (zrI _)) (zrH (Nat.lt_succ_self _))
 have I2:=Inv.made (C:=C) I
 have r2:Vals (V.ref (s.heap.objs.size+1)::(vs++dvs)) (Value.ref (s.heap.objs.size+1)::(us++ds)):=.cons rfl (r.append hd)
 have hl:(Value.ref (s.heap.objs.size+1)::us++ds).length=ps.length:=by
  have e:=r2.length
  rw[F.len _ _ _ _ hq] at e
  exact e.symm
 refine wpAny_call (zgV (f:=f) I.N6 M.makes M.init (beq_iff_eq.mp M.fn) (codeAny_mono (F.run _ X.stack _ _ ⟨Value.ref (s.heap.objs.size+1)::us,[]⟩ (Value.ref (s.heap.objs.size+1)::(us++ds)) _ _ E (hr.make C us [])
  (I2.env0.make C us []) (hb _ (Value.ref (s.heap.objs.size+1)::us) I2.N6 hl) r2 hq) fun r s' hq'=>?_))
 cases r with
 | error e=>exact hx pins σ _ _ e s' I2 hq'
 | ok fl =>
  cases fl with
  | ret u =>
   obtain⟨v,H',I3,rv,ev,q3⟩:=I2.after hq'
   subst ev
   exact⟨rv,⟨V.ref (s.heap.objs.size+1),H',I3,rfl,q3⟩⟩
  | next=>exact False.elim hq'
  | brk=>exact False.elim hq'
  | cont=>exact False.elim hq'
theorem ziw (M:Mk X.K C f)(F:zA X.prog X.w X.K X.mg X.base CX k f fd ps sp)(hr:Zc (k+1) X.A)(hg:Gl X x)(hm:X.mg x=some (.ref C))(hb:Binds X.K fd ps ds)(hd:Vals dvs ds)(hx:Passes CX X E)
  (ha:PA X (e::es) t)(hdb:(x==("__debug__" : Str))=false:=by decide)(he:starEach (e::es) X.env=(false,eval e X.env)::starEach es X.env:=by rfl)(hpl:(backTo pos (starEach es X.env)).any (·.1)=false:=by rfl) :
  PE X (.Call (.Name x p) (e::es) [] pos) (zlY C sp dvs E t):=by
 intro pins s σ H Q I h
 refine wpAny_Call_Name_kw (zbL I hg hm ?_ hdb)
 refine PySem.W.callWith_K (h₀:=X.base) I.ok.mod.kin M.kp (wQ (ha pos pins s σ H _ I h) fun us s1 ⟨vs,H1,I1,r,q⟩=>⟨I1.N6,?_⟩) he hpl
 exact zgX M F hr hb hd hx I1 r q
end
structure zG (N P:List Str)(sc:Scope):Prop where
 kind:sc.kind=.function
 co:sc.isCoroutine=false
 gen:sc.isGenerator=false
 nd:N.Nodup
 pre:N.take P.length=P
 par:∀x∈P,sc.names.lookup x=some .local\/sc.names.lookup x=some .cell
 zkE:∀y∈sc.names,y.2≠.free
theorem za6 {kindOf:Str->Option NameKind}{x:Str}:∀{binds:List (Str×Value)} {m:Str->Option Value},(∀v,(x,v)∉binds)->bindL kindOf binds m x=m x
 | [],_,_=>rfl
 | (n,v)::r,m,h=>by
  unfold bindL
  rw[za6 fun w hw=>h w (zrD _ hw)]
  split
  ·have:x≠n:=by rintro rfl;exact h v zrM
   simp[this]
  ·rfl
theorem za7 {kindOf:Str->Option NameKind}{x:Str}:∀{binds:List (Str×Value)} {m:Str->Option Value},(∀v,(x,v)∉binds)->bindC kindOf binds m x=m x
 | [],_,_=>rfl
 | (n,v)::r,m,h=>by
  unfold bindC
  rw[za7 fun w hw=>h w (zrD _ hw)]
  split
  ·rfl
  ·have:x≠n:=by rintro rfl;exact h v zrM
   simp[this]
theorem za8 {kindOf:Str->Option NameKind}{x:Str}{v:Value}:∀{P:List Str} {vs:List Value} {i:Nat} {m:Str->Option Value},P.Nodup->P[i]?=some x->vs[i]?=some v->kindOf x=some .local ->
  bindL kindOf (P.zip vs) m x=some v
 | [],_,_,_,_,h,_,_=>by simp at h
 | _::_,[],_,_,_,_,h,_=>by simp at h
 | p::P,w::vs,0,m,nd,h1,h2,hk=>by
  simp at h1 h2;subst h1;subst h2
  show bindL kindOf ((p,w)::P.zip vs) m p=_
  unfold bindL
  rw[za6 fun v hv=>(List.nodup_cons.mp nd).1 (List.of_mem_zip hv).1,if_pos hk]
  simp
 | p::P,w::vs,i+1,m,nd,h1,h2,hk=>by
  show bindL kindOf ((p,w)::P.zip vs) m x=_
  unfold bindL
  exact za8 (i:=i) (List.nodup_cons.mp nd).2 (by simpa using h1) (by simpa using h2) hk
theorem za9 {kindOf:Str->Option NameKind}{x:Str}{v:Value}:∀{P:List Str} {vs:List Value} {i:Nat} {m:Str->Option Value},P.Nodup->P[i]?=some x->vs[i]?=some v->kindOf x≠some .local ->
  bindC kindOf (P.zip vs) m x=some v
 | [],_,_,_,_,h,_,_=>by simp at h
 | _::_,[],_,_,_,_,h,_=>by simp at h
 | p::P,w::vs,0,m,nd,h1,h2,hk=>by
  simp at h1 h2;subst h1;subst h2
  show bindC kindOf ((p,w)::P.zip vs) m p=_
  unfold bindC
  rw[za7 fun v hv=>(List.nodup_cons.mp nd).1 (List.of_mem_zip hv).1,if_neg hk]
  simp
 | p::P,w::vs,i+1,m,nd,h1,h2,hk=>by
  show bindC kindOf ((p,w)::P.zip vs) m x=_
  unfold bindC
  exact za9 (i:=i) (List.nodup_cons.mp nd).2 (by simpa using h1) (by simpa using h2) hk
def start (N:List Str)(vs:List V):St:=vs.map some++List.replicate (N.length-vs.length) none
def zga (CX:CXT)(P:Program)(w:World)(K:Frag)(mg:Str->Option Value)(base:Heap)(N:List Str)(qual:Str)(scope:Scope)(f:Addr)(cd:Value)(A:Around)(outer:List Env)(s:Shared)(H:Hp)(E:XK):Cx where
 prog:=P
 w:=w
 K:=K
 mg:=mg
 base:=base
 A:=A.deeper (envOfC qual scope s.heap.objs.size f cd)
 N:=N
 s₀:=s
 H₀:=H
 env:=envOfC qual scope s.heap.objs.size f cd
 outer:=outer
 stack:=envOfC qual scope s.heap.objs.size f cd::outer
 ex:=[]
 calm:=true
 fn:=fun _=>true
 pn:=[]
 xe:=fun e s'=>wpAny (model P w) (A.deeper (envOfC qual scope s.heap.objs.size f cd)) (leaving (envOfC qual scope s.heap.objs.size f cd) e) (fun _ s''=>CX outer H s E e s'') (fun e' s''=>CX outer H s E e' s'') s'
theorem zc2 {sc:Scope}{n:Nat}{x:Str}(h:sc.names.lookup x=some .cell):∃c,(cellsFrom n sc.names []).lookup x=some c:=by
 have q:=PySem.W.cellsFrom_some sc.names n [] (.inl h)
 exact Option.isSome_iff_exists.mp q
theorem zgb {CX:CXT}{P:Program}{w:World}{K:Frag}{mg:Str->Option Value}{base:Heap}{N ps:List Str}{qual:Str}{scope:Scope}{f:Addr}{cd:Value}{A:Around}{outer:List Env}{s s1:Shared}{H:Hp}{E:XK}{us:List Value}{vs:List V}
  (S:zG N ps scope)(hd:A.handled=none)(e0:zer P w K mg base A outer s H)(hl:vs.length=ps.length)(r:Vals vs us)
  (x:InCallC s s.heap.objs.size (bindL (envOfC qual scope s.heap.objs.size f cd).kindOf (ps.zip us) fun _=>none) (cellsFrom (s.heap.objs.size+1) scope.names []) (bindC (envOfC qual scope s.heap.objs.size f cd).kindOf (ps.zip us) fun _=>none) s1) :
  Inv (zga CX P w K mg base N qual scope f cd A outer s H E) [] (start N vs) H s1:=by
 have hpl:ps.length<=N.length:=by have:=congrArg List.length S.pre;rw[zrQ] at this;omega
 obtain⟨h1,tk,rfl,hk⟩:=x.done
 have noA:∀b:Addr,b∉(zga CX P w K mg base N qual scope f cd A outer s H E).ex:=fun b z=>absurd (show b∈([]:List Addr) from z) (by simp)
 refine⟨⟨e0.mod,S.kind,rfl,rfl,zrI _,fun y z c h1 h2=>?_,fun y hy=>?_,fun y c _ h=>?_,fun _=>hd,Around.frames_deeper e0.frames,.inr ⟨rfl,rfl⟩,fun b z=>absurd z (noA b),e0.bs,e0.bsz,fun b _ _=>noA b,fun b z=>absurd z (noA b),e0.N5,e0.frf⟩,
  rfl,e0.bare,Un.kept hk,⟨_,x.toInCall.ns,fun i y v h1 h2 h3=>?_⟩,fun y c h=>⟨_,x.cell y c h⟩,e0.hok.fresh (zrI _),fun y c h=>?_,fun p hp=>absurd (show p∈([]:List (Addr×Obj)) from hp) (by simp),e0.hok.kept hk,?_⟩
 ·exact name_of_addr x.apart (PySem.mem_of_lookup h1) (PySem.mem_of_lookup h2)
 ·have hy:scope.names.lookup y=some .cell\/scope.names.lookup y=some .free:=hy
  rcases hy with hy | hy
  ·exact zc2 hy
  ·exact absurd rfl (S.zkE _ (PySem.mem_of_lookup hy))
 ·exact zrL (x.above y c (PySem.mem_of_lookup h))
 ·have hi:i<vs.length:=by
   unfold start at h2
   by_cases hi:i<vs.length
   ·exact hi
   ·rw[List.getElem?_append_right (by simpa using hi)] at h2
    rw[List.getElem?_replicate] at h2
    split at h2<;>cases h2
  have ha:vs[i]?=some v:=by
   unfold start at h2
   rw[zrZ (by simpa using hi),zru] at h2
   cases e:vs[i]? with
   | none=>rw[e] at h2;cases h2
   | some a=>rw[e] at h2;cases h2;rfl
  obtain⟨u,hu,rv⟩:=r.get ha
  have hp:ps[i]?=some y:=by
   rw[<-S.pre,List.getElem?_take_of_lt (by omega)];exact h1
  have ndP:ps.Nodup:=by rw[<-S.pre];exact S.nd.sublist (List.take_sublist _ _)
  refine⟨u,rv,?_⟩
  rcases S.par y (zrx hp) with k | k
  ·exact .inl ⟨k,za8 ndP hp hu k⟩
  ·obtain⟨c,e⟩:=zc2 (n:=s.heap.objs.size+1) k
   refine .inr ⟨.inl k,c,e,?_⟩
   have q:=x.cell y c e
   rw[za9 ndP hp hu (by show scope.names.lookup y≠_;rw[k];decide)] at q
   exact q
 ·exact e0.hok.fresh (zrL (x.above y c (PySem.mem_of_lookup h)))
 ·unfold start
  show _=N.length
  rw[zrA,zrs,List.length_replicate]
  omega
theorem zl0 {CX:CXT}{P:Program}{w:World}{K:Frag}{mg:Str->Option Value}{base:Heap}{k:Nat}{f:Addr}{name qual:Str}{params:Arguments}{body:List Stmt}{scope:Scope}{dV kV doc pm cdv ct oc:Value}{an od:Option Addr}
  {osl:Array (Option Value)}{N ps:List Str}{sp:Sp}(lk:K.lookup f=some ⟨oc,od,.func (PySem.W.fnOf name qual params body scope dV kV doc pm an cdv ct),osl⟩)(hcd:PySem.W.codeIn K cdv qual=true)(S:zG N ps scope)
  (len:∀vs H Q E,sp vs H Q E->vs.length=ps.length)
  (hbody:∀(A:Around) (outer:List Env) (s:Shared) (H:Hp) (vs:List V) (Q:VK) (E:XK),Zc k (A.deeper (envOfC qual scope s.heap.objs.size f cdv))->sp vs H Q E ->
   ∃t,PSs (zga CX P w K mg base N qual scope f cdv A outer s H E) body t/\t { nx:=fun _ H'=>Q .non H',rt:=Q } (start N vs) H) :
  zA P w K mg base CX (k+1) f (PySem.W.fnOf name qual params body scope dV kV doc pm an cdv ct) ps sp:=by
 refine⟨len,fun A outer s H args us vs Q E hr e0 hb r hsp=>?_⟩
 have hl:=len _ _ _ _ hsp
 have KX:K.In s.heap:=e0.mod.kin.keeps fun b o e=>(e0.bs b o e).1
 have lim:s.heap.NoLimit:=e0.mod.nolimit.keeps fun b o e=>(e0.bs b o e).1
 have hkind:∀y∈ps.zip us,scope.names.lookup y.1=some .local\/(scope.names.lookup y.1=some .cell/\((cellsFrom (s.heap.objs.size+1) scope.names []).lookup y.1).isSome=true):=fun⟨n,v⟩ hy=>by
  rcases S.par n (List.of_mem_zip hy).1 with q | q
  ·exact .inl q
  ·exact .inr ⟨q,PySem.W.cellsFrom_some _ _ _ (.inl q)⟩
 refine codeAny_call_function hr.depth (KX _ _ lk) rfl S.co S.gen rfl (PySem.W.codeRec_of KX hcd) (hb _ _ _ _ ?_)
 refine wpAny_newFunctionEnv_cells S.kind hkind fun env he s1 x=>?_
 subst he
 refine⟨lim.keeps x.toInCall.keep,codeAny_func ?_⟩
 obtain⟨t,ht,hq⟩:=hbody A outer s H vs Q E (hr.deeper _) hsp
 have I:Inv (zga CX P w K mg base N qual scope f cdv A outer s H E) [] (start N vs) H s1:=zgb S hr.hd e0 hl r x
 refine wpAny_mono (ht [] s1 (start N vs) H _ I hq) (fun fl s' hs=>?_) fun e s' hs=>hs
 have fin:∀{σ':St} {H':Hp} {v:V} {u:Value},Inv (zga CX P w K mg base N qual scope f cdv A outer s H E) [] σ' H' s'->RelV v u->Q v H'->CE outer P w H s Q u s' :=
  fun {σ' H' v u} J rv q=>⟨v,H',J.os,J.bare,J.base,J.hok,rv,q⟩
 cases fl with
 | ret u =>
  obtain⟨v,σ',H',J,rv,q⟩:=hs
  exact fin J rv q
 | next =>
  obtain⟨σ',H',J,q⟩:=hs
  exact fin (v:=V.non) (u:=Value.none) J rfl q
 | brk =>
  obtain⟨_,_,_,q⟩:=hs
  exact False.elim q
 | cont =>
  obtain⟨_,_,_,q⟩:=hs
  exact False.elim q
section
variable {X:Cx}{x:Str}{p pos:Pos}{e:Expr}{es:List Expr}{t:TA}{id T:String}{r:List V->Hp->VK->Prop}
def tCB (r:List V->Hp->VK->Prop)(t:TA):TE:=fun σ H Q=>t σ H fun vs H1=>r vs H1 Q
theorem zO (hc:YF X (.builtin id) r)(hg:Gl X x)(hm:X.mg x=none)(hv:bootBuiltins x=some (.builtin id))(ha:PA X (e::es) t)(hn:x ≠ "__name__" := by decide)(hdb:(x==("__debug__" : Str))=false:=by decide)
  (he:starEach (e::es) X.env=(false,eval e X.env)::starEach es X.env:=by rfl)(hpl:(backTo pos (starEach es X.env)).any (·.1)=false:=by rfl):PE X (.Call (.Name x p) (e::es) [] pos) (tCB r t):=by
 intro pins s σ H Q I h
 refine wpAny_Call_Name_kw (Ws I hg hm hv ?_ hn hdb)
 exact PyProof.Rows.callWith_builtin1 (wQ (ha pos pins s σ H _ I h) fun us s1 ⟨vs,H1,I1,r1,q1⟩=>hc pins s1 σ H1 vs us Q I1 r1 q1) he hpl
theorem tX (hc:YF X (.type T) r)(hg:Gl X x)(hm:X.mg x=none)(hv:bootBuiltins x=some (.type T))(ha:PA X (e::es) t)(hn:x ≠ "__name__" := by decide)(hdb:(x==("__debug__" : Str))=false:=by decide)
  (he:starEach (e::es) X.env=(false,eval e X.env)::starEach es X.env:=by rfl)(hpl:(backTo pos (starEach es X.env)).any (·.1)=false:=by rfl):PE X (.Call (.Name x p) (e::es) [] pos) (tCB r t):=by
 intro pins s σ H Q I h
 refine wpAny_Call_Name_kw (Ws I hg hm hv ?_ hn hdb)
 exact PyProof.Rows.callWith_type1 (wQ (ha pos pins s σ H _ I h) fun us s1 ⟨vs,H1,I1,r1,q1⟩=>hc pins s1 σ H1 vs us Q I1 r1 q1) he hpl
end
end L2
namespace HT
open PySem PyProof.Rows
section
variable {prog:Program}{w:World}{A:Around}{E:Value->Shared->Prop}{s:Shared}
def Zf (n d:Nat):Option Int->Nat
 | none=>d
 | some v=>if v<0 then (v+(n:Int)).toNat else min v.toNat n
theorem zgY (n d:Nat):Zf n d none=d:=rfl
theorem K8 (n d k:Nat):Zf n d (some (k:Int))=min k n:=by
 show(if (k:Int)<0 then ((k:Int)+(n:Int)).toNat else min (k:Int).toNat n)=min k n
 rw[if_neg (by omega),zr5]
theorem zkF (n d:Nat)(hd:d<=n)(o:Option Int):Zf n d o<=n:=by
 cases o with
 | none=>exact hd
 | some v =>
  show(if v<0 then (v+(n:Int)).toNat else min v.toNat n)<=n
  by_cases hv:v<0
  ·rw[if_pos hv];omega
  ·rw[if_neg hv];exact Nat.min_le_right _ _
theorem zfl (v:Int)(n d:Nat):(if v<0 then max (v+(n:Int)) 0 else min v (n:Int))=((Zf n d (some v):Nat):Int):=by
 show(if v<0 then max (v+(n:Int)) 0 else min v (n:Int))=(((if v<0 then (v+(n:Int)).toNat else min v.toNat n):Nat):Int)
 by_cases hv:v<0
 ·simp only[if_pos hv];omega
 ·simp only[if_neg hv];omega
theorem zet (lo hi:Option Int)(n:Nat):Builtin.Slice.sliceAdjust lo hi 1 (n:Int)=(((Zf n 0 lo:Nat):Int),((Zf n n hi:Nat):Int)):=by
 have h1:¬((1:Int)<0):=by omega
 unfold Builtin.Slice.sliceAdjust
 simp only[h1,if_false]
 refine Prod.ext ?_ ?_
 ·cases lo with
  | none=>rfl
  | some v=>exact zfl v n 0
 ·cases hi with
  | none=>rfl
  | some v=>exact zfl v n n
theorem zeu (i j:Nat):Builtin.Slice.slicePlaces (i:Int) (j:Int) 1=j-i:=by
 unfold Builtin.Slice.slicePlaces
 have h1:(1:Int) > 0:=by omega
 simp only[h1,if_true,Int.ediv_one]
 split<;>omega
theorem Ju {v:Value}{o:Option Int}{Q:Option Int->Shared->Prop}(p:IsPart v o)(h:Q o s):wpAny (model prog w) A (Builtin.Slice.slicePartIndex v) Q E s:=by
 cases p with
 | none=>exact slicePart_none h
 | int i t=>exact slicePart_int h
theorem Ma {sl:Addr}{vl vu:Value}{lo hi:Option Int}{n:Nat}{Q:Int×Int×Nat->Shared->Prop}(hs:s.heap.IsSliceOf sl vl vu .none)(pl:IsPart vl lo)(pu:IsPart vu hi)
  (h:Q (((Zf n 0 lo:Nat):Int),1,Zf n n hi-Zf n 0 lo) s):wpAny (model prog w) A (Builtin.Slice.sliceApplied (.ref sl) (pure (n:Int))) Q E s:=by
 obtain⟨os,hos,hcs,hds⟩:=id hs
 unfold Builtin.Slice.sliceApplied Builtin.Slice.sliceFields
 refine wpAny_bind (wpAny_bind (wpAny_field hos hds (x:=vl) rfl (wpAny_bind (wpAny_field hos hds (x:=vu) rfl (wpAny_bind (wpAny_field hos hds (x:=.none) rfl (wpAny_pure ?_)))))))
 refine wpAny_bind (slicePart_none ?_)
 show wpAny _ _ (if ((1:Int)==0)=true then _ else _) _ _ s
 rw[if_neg (by decide)]
 refine wpAny_bind (Ju pl (wpAny_bind (Ju pu (wpAny_bind (wpAny_pure ?_)))))
 show wpAny _ _ (match Builtin.Slice.sliceAdjust lo hi 1 (n:Int) with | (lo,hi)=>pure (lo,(1:Int),Builtin.Slice.slicePlaces lo hi 1)) _ _ s
 rw[zet lo hi n]
 show wpAny _ _ (pure (((Zf n 0 lo:Nat):Int),(1:Int),Builtin.Slice.slicePlaces ((Zf n 0 lo:Nat):Int) ((Zf n n hi:Nat):Int) 1)) _ _ s
 rw[zeu]
 exact wpAny_pure h
theorem zgZ (xs:Array Value)(i k:Nat):((List.range k).filterMap fun(m:Nat)=>xs[((i:Int)+(m:Int)*1).toNat]?).toArray=((xs.toList.drop i).take k).toArray:=by
 have e:(fun(m:Nat)=>xs[((i:Int)+(m:Int)*1).toNat]?)=fun m=>xs[i+m]?:=by
  funext m
  have:((i:Int)+(m:Int)*1).toNat=i+m:=by omega
  rw[this]
 rw[e]
 have:=pick_run xs i k
 rw[List.filterMap_map] at this
 have e2:((fun x=>xs[x]?) ∘ fun x=>i+x)=fun m=>xs[i+m]?:=rfl
 rw[e2] at this
 rw[this]
theorem QB {t sl:Addr}{items:Array Value}{vl vu:Value}{lo hi:Option Int}{Q:Value->Shared->Prop}(ht:IsTup s.heap t items)(hs:s.heap.IsSliceOf sl vl vu .none)(pl:IsPart vl lo)(pu:IsPart vu hi)
  (hw:¬(Zf items.size 0 lo=0/\Zf items.size items.size hi=items.size))
  (h:Q (.ref s.heap.objs.size) { s with heap:=s.heap.push { cls:=.type "tuple", data:=.seq ((items.toList.drop (Zf items.size 0 lo)).take (Zf items.size items.size hi-Zf items.size 0 lo)).toArray } })
  (hsz:items.size<=sizeLine):wpAny (model prog w) A (getItem (.ref t) (.ref sl)) Q E s:=by
 have zfm:sizeOk (.seq ((items.toList.drop (Zf items.size 0 lo)).take (Zf items.size items.size hi-Zf items.size 0 lo)).toArray):=by
  show((items.toList.drop (Zf items.size 0 lo)).take (Zf items.size items.size hi-Zf items.size 0 lo)).toArray.size<=sizeLine
  rw[zrC,zrQ,List.length_drop,Array.length_toList]
  omega
 have hj:Zf items.size items.size hi<=items.size:=zkF _ _ (zrI _) hi
 obtain⟨os,hos,hcs,hds⟩:=id hs
 have hTs:s.TypeIs (.ref sl) "slice" := ⟨os,hos,hcs⟩
 unfold getItem
 try with_reducible refine wpAny_holding ?_
 first | refine wpAny_bind (wpAny_pure ?_) | skip
 refine wpAny_bind (wpAny_sequenceKey ht.typeIs (by decide) ?_)
 refine wpAny_bind (wpAny_callSpecial?_slot (name:=Str.ofString "__getitem__") ht.typeIs PyProof.Rows.slot_tuple_getitem
  (wpAny_call_entry PyProof.Rows.slot_tuple_getitem ht.typeIs entry_tuple_getitem ?_ (args_tuple_getitem _ _)))
 show wpAny _ _ (Builtin.Tuple.tupleItemsOf (.ref t)>>=_) _ _ s
 refine wpAny_bind (tupleItemsOf_ ht ?_)
 refine wpAny_bind (wpAny_typeOf hTs ?_)
 rw[if_pos (by decide)]
 refine wpAny_bind (Ma hs pl pu ?_)
 have hno:¬((((Zf items.size 0 lo:Nat):Int)==0&&(1:Int)==1&&(Zf items.size items.size hi-Zf items.size 0 lo)==items.size)=true):=by
  intro q
  rw[zrU,zrU] at q
  have q1:((Zf items.size 0 lo:Nat):Int)=0:=eq_of_beq q.1.1
  have q2:Zf items.size items.size hi-Zf items.size 0 lo=items.size:=eq_of_beq q.2
  exact hw ⟨by omega,by omega⟩
 show wpAny _ _ (if (((Zf items.size 0 lo:Nat):Int)==0&&(1:Int)==1&&(Zf items.size items.size hi-Zf items.size 0 lo)==items.size)=true then _ else _) _ _ s
 rw[if_neg hno,zgZ]
 first
  | exact wpAny_bind (m:=Builtin.Tuple.tupleExact _) (wpAny_newObj_type (wpAny_pure ⟨_,rfl,wpAny_pure h⟩) zfm)
  | exact wpAny_bind (m:=Builtin.Tuple.tupleExact _) (wpAny_newObj_type (wpAny_bind (wpAny_pure (wpAny_pure ⟨_,rfl,wpAny_pure h⟩))) zfm)
  | exact wpAny_bind (wpAny_bind (m:=Builtin.Tuple.tupleExact _) (wpAny_newObj_type (wpAny_pure (wpAny_pure ⟨_,rfl,wpAny_pure h⟩)) zfm))
  | exact wpAny_bind (wpAny_bind (m:=Builtin.Tuple.tupleExact _) (wpAny_newObj_type (wpAny_pure ⟨_,rfl,wpAny_pure h⟩) zfm))
end
end HT
namespace L2
open PySem PySem.Spec PyProof.Rows
abbrev TO:=St->Hp->(Option Int->Hp->Prop)->Prop
def PO (X:Cx)(e:Option Expr)(t:TO):Prop :=
 ∀(pins:List (Addr×Obj)) (s:Shared) (σ:St) (H:Hp) (Q:Option Int->Hp->Prop),Inv X pins σ H s->t σ H Q ->
  wpAny (model X.prog X.w) X.A (evalPart e X.env) (fun u s'=>∃o H',Inv X pins σ H' s'/\IsPart u o/\Q o H') X.xe s
def zix:TO:=fun _ H Q=>Q none H
def zl1 (t:TE):TO:=fun σ H Q=>t σ H fun x H1=>∃i,x=.int i/\Q (some i) H1
theorem intsAre_of {ns:List Int}:∀{us:List Value},Vals (ns.map V.int) us->IntsAre us ns:=by
 induction ns with
 | nil=>intro us r;rw[List.map_nil] at r;cases r;exact .nil
 | cons n ns ih =>
  intro us r
  rw[zrR] at r
  cases r with
  | cons r1 r2 =>
   obtain⟨t,e⟩:=r1
   subst e
   exact .cons n t (ih r2)
section
variable {X:Cx}{e:Expr}{te:TE}{lo hi:Option Expr}{tl th:TO}{pos p2:Pos}
theorem zbP:PO X none zix:=by
 intro pins s σ H Q I h
 rw[evalPart_none]
 exact wpAny_pure ⟨none,H,I,.none,h⟩
theorem QC (h:PE X e te):PO X (some e) (zl1 te):=by
 intro pins s σ H Q I hw
 rw[evalPart_some]
 refine wQ (h pins s σ H _ I hw) fun u s1 ⟨x,H1,I1,r1,q1⟩=>?_
 obtain⟨i,rfl,q⟩:=q1
 obtain⟨t,rfl⟩:=r1
 exact⟨some i,H1,I1,.int i t,q⟩
def SlR (X:Cx)(r:V->Option Int->Option Int->Hp->VK->Prop):Prop :=
 ∀(pins:List (Addr×Obj)) (s:Shared) (σ:St) (H:Hp) (x:V) (v vl vu:Value) (lo hi:Option Int) (sl:Addr) (Q:VK),Inv X pins σ H s->RelV x v->s.heap.IsSliceOf sl vl vu .none->IsPart vl lo->IsPart vu hi->r x lo hi H Q ->
  ∃T id,typeLookup (.type T) "__getitem__"=pure (some (.builtin id))/\s.TypeIs v T/\wpAny (model X.prog X.w) X.A (getItem v (.ref sl)) (EP X pins σ Q) X.xe s
def tSl (r:V->Option Int->Option Int->Hp->VK->Prop)(te:TE)(tl th:TO):TE:=fun σ H Q=>te σ H fun x H1=>tl σ H1 fun l H2=>th σ H2 fun u H3=>r x l u H3 Q
theorem QD {r:V->Option Int->Option Int->Hp->VK->Prop}(hr:SlR X r)(he:PE X e te)(hl:PO X lo tl)(hu:PO X hi th):PE X (.Subscript e (.Slice lo hi none p2) pos) (tSl r te tl th):=by
 intro pins s σ H Q I h
 refine Subscript_ (wQ (he pins s σ H _ I h) fun v s1 ⟨x,H1,I1,r1,q1⟩=>?_)
 refine wpAny_Slice (wQ (hl pins s1 σ H1 _ I1 q1) fun vl s2 ⟨l,H2,I2,pl,q2⟩=>wQ (hu pins s2 σ H2 _ I2 q2) fun vu s3 ⟨u,H3,I3,pu,q3⟩=>?_)
 rw[evalPart_none]
 refine wpAny_pure ?_
 have I4:Inv X pins σ H3 { s3 with heap:=s3.heap.push { cls:=.type "slice", data:=.fields #[vl,vu,.none] } }:=I3.kept (t':=s3.toks) fun b ob q=>zry _ q
 obtain⟨T,id,hT,ht,hg⟩:=hr pins { s3 with heap:=s3.heap.push { cls:=.type "slice", data:=.fields #[vl,vu,.none] } } σ H3 x v vl vu l u s3.heap.objs.size Q I4 r1 (Heap.IsSliceOf.new ..) pl pu q3
 show wpAny (model X.prog X.w) X.A (subscriptTail e (.Slice lo hi none p2) v (.ref s3.heap.objs.size)) (EP X pins σ Q) X.xe { s3 with heap:=s3.heap.push { cls:=.type "slice", data:=.fields #[vl,vu,.none] } }
 exact tail_any (ops:=[.ref s3.heap.objs.size,v]) ht hT hg (by with_unfolding_all rfl)
def zaA (xs:List V)(lo hi:Option Int):List V:=(xs.drop (HT.Zf xs.length 0 lo)).take (HT.Zf xs.length xs.length hi-HT.Zf xs.length 0 lo)
theorem Lp (xs:List V)(lo hi:Option Int):(zaA xs lo hi).length<=xs.length:=by
 unfold zaA
 rw[zrQ,List.length_drop]
 omega
def znL (K:Frag):V->Option Int->Option Int->Hp->VK->Prop:=fun x lo hi H Q=>∃a xs,x=.ref a/\vp K H a xs /\
 ¬(HT.Zf xs.length 0 lo=0/\HT.Zf xs.length xs.length hi=xs.length)/\∀p,H p=none->Q (.ref p) (upd H p (.tup (zaA xs lo hi)))
theorem zg0:SlR X (znL X.K):=by
 intro pins s σ H x v vl vu lo hi sl Q I rx hs pl pu h
 obtain⟨a,xs,rfl,hx,hw,q⟩:=h
 cases rx
 obtain⟨its,r,ht,hz⟩:=I.tuple hx
 have hlen:its.toArray.size=xs.length:=by rw[zrC];exact r.length.symm
 refine⟨"tuple", _,PyProof.Rows.slot_tuple_getitem.lookup,ht.typeIs,?_⟩
 refine HT.QB ht hs pl pu (by rw[hlen];exact hw) ?_ (by rw[hlen];exact hz)
 rw[hlen]
 refine⟨.ref s.heap.objs.size,_,I.laid (t':=s.toks) (o:=.tup (zaA xs lo hi)) (fun b ob q=>zry _ q) (zrI _) ?_,rfl,q _ (I.hok.fresh (zrI _))⟩
 exact⟨zrO (Lp xs lo hi) hz,_,(r.drop (HT.Zf xs.length 0 lo)).take (HT.Zf xs.length xs.length hi-HT.Zf xs.length 0 lo),IsTup.new _ _⟩
end
def ixN (n:Nat)(i:Int):Option Nat:=if 0<=i then (if i<n then some i.toNat else none) else if -(n:Int)<=i then some (i+n).toNat else none
def atI {α:Type}(xs:List α)(i:Int):Option α:=(ixN xs.length i).bind fun j=>xs[j]?
theorem ziy {n:Nat}{i:Int}{j:Nat}(h:ixN n i=some j):seqIndex? i n=some j/\j<n/\-(n:Int)<=i/\i<n:=by
 unfold ixN at h
 by_cases h0:0<=i
 ·rw[if_pos h0] at h
  by_cases h1:i<n
  ·rw[if_pos h1] at h
   have e:i.toNat=j:=zrX h
   exact⟨by rw[seqIndex_of h0 h1,e],by omega,by omega,h1⟩
  ·rw[if_neg h1] at h;cases h
 ·rw[if_neg h0] at h
  by_cases h1:-(n:Int)<=i
  ·rw[if_pos h1] at h
   have e:(i+n).toNat=j:=zrX h
   exact⟨by rw[seqIndex_neg (by omega) h1,e],by omega,h1,by omega⟩
  ·rw[if_neg h1] at h;cases h
theorem zbQ {α:Type}{xs:List α}{i:Int}{v:α}(h:atI xs i=some v):∃j,seqIndex? i xs.length=some j/\xs[j]?=some v/\j<xs.length/\-(xs.length:Int)<=i/\i<xs.length:=by
 unfold atI at h
 cases e:ixN xs.length i with
 | none=>rw[e] at h;cases h
 | some j =>
  rw[e] at h
  obtain⟨h1,h2,h3,h4⟩:=ziy e
  exact⟨j,h1,h,h2,h3,h4⟩
theorem vq {α:Type}{xs:List α}{j:Nat}{v:α}(h:xs[j]?=some v):atI xs (j:Int)=some v:=by
 have hj:j<xs.length:=(zrv.mp h).1
 have e:ixN xs.length (j:Int)=some j:=by
  unfold ixN
  rw[if_pos (by omega),if_pos (by omega)];simp
 unfold atI;rw[e];exact h
def ziz (b:Expr):Prop:=∀o i,subscripted b false o i=operate [o,i] (getItem o i)
def IxR (X:Cx)(r:R2):Prop :=
 ∀(value slice:Expr) (pins:List (Addr×Obj)) (s:Shared) (σ:St) (H:Hp) (x y:V) (v u:Value) (Q:VK),Inv X pins σ H s->RelV x v->RelV y u->r x y H Q ->
  subscripted slice false v u=operate [v,u] (getItem v u)->wpAny (model X.prog X.w) X.A (subscriptTail value slice v u) (EP X pins σ Q) X.xe s
def MtR (X:Cx)(id:String)(r:V->List V->Hp->VK->Prop):Prop :=
 ∀(pins:List (Addr×Obj)) (s:Shared) (σ:St) (H:Hp) (x:V) (xs:List V) (v:Value) (us:List Value) (Q:VK),Inv X pins σ H s->RelV x v->Vals xs us->r x xs H Q ->
  wpAny (model X.prog X.w) X.A (call (.builtin id) (v::us)) (EP X pins σ Q) X.xe s
section
variable {X:Cx}{a b:Expr}{ta tb:TE}{pos:Pos}
theorem yj {r:R2}(hr:IxR X r)(ha:PE X a ta)(hb:PE X b tb)(hs:ziz b):PE X (.Subscript a b pos) (tOp r ta tb):=by
 intro pins s σ H Q I h
 exact Subscript_ (zkw ha hb I h fun v u s2 x y H2 I2 rx ry q=>hr a b pins s2 σ H2 x y v u Q I2 rx ry q (hs _ _))
def zl2 (K:Frag):R2:=fun x y H Q=>∃p xs i v,x=.ref p/\y=.int i/\zX K H p xs/\atI xs i=some v/\Q v H
def znM (K:Frag):R2:=fun x y H Q=>∃p xs i v,x=.ref p/\y=.int i/\vp K H p xs/\atI xs i=some v/\Q v H
def znN:R2:=fun x y H Q=>∃z i c,x=.str z/\y=.int i/\z.length<=sizeLine/\atI z.cps.toList i=some c/\Q (.str ⟨#[c]⟩) H
theorem yw:IxR X (zl2 X.K):=by
 intro value slice pins s σ H x y v u Q I rx ry h hs
 obtain⟨p,xs,i,z,rfl,rfl,hq,he,q⟩:=h
 cases rx
 obtain⟨t,rfl⟩:=ry
 obtain⟨its,r,pl,hz⟩:=I.list hq
 obtain⟨j,h1,h2,h3,h4,h5⟩:=zbQ he
 obtain⟨w,ew,rw'⟩:=r.get h2
 have hl:=r.length
 have hn:=Ux
 have fin:EP X pins σ Q w s:=⟨z,H,I,rw',q⟩
 by_cases h0:0<=i
 ·have hj:i.toNat=j:=by
   rw[seqIndex_of h0 h5] at h1
   exact zrX h1
  exact item_listR pl.isList h0 (by omega) (by rw[hj];simpa using ew) fin hs
 ·have hj:(i+(its.toArray.size:Int)).toNat=j:=by
   rw[seqIndex_neg (by omega) h4] at h1
   rw[zrC,<-hl]
   exact zrX h1
  exact subscriptTail_builtinR (x:=w) pl.isList.typeIs slot_list_getitem.lookup
   (wpAny_getItem_list_neg (Q:=fun r s'=>r=w/\EP X pins σ Q r s') pl.isList (by omega) (by rw[zrC]<;>omega) (by omega) (by rw[hj];simpa using ew) ⟨rfl,fin⟩) hs
theorem tH:IxR X (znM X.K):=by
 intro value slice pins s σ H x y v u Q I rx ry h hs
 obtain⟨p,xs,i,z,rfl,rfl,hq,he,q⟩:=h
 cases rx
 obtain⟨t,rfl⟩:=ry
 obtain⟨its,r,pl,hz⟩:=I.tuple hq
 obtain⟨j,h1,h2,h3,h4,h5⟩:=zbQ he
 obtain⟨w,ew,rw'⟩:=r.get h2
 have hl:=r.length
 have hn:=Ux
 have fin:EP X pins σ Q w s:=⟨z,H,I,rw',q⟩
 exact subscriptTail_builtinR (x:=w) pl.typeIs slot_tuple_getitem.lookup
  (getItem_tuple (j:=j) (Q:=fun r s'=>r=w/\EP X pins σ Q r s') pl (by omega) (by omega) (by rw[zrC,<-hl];exact h1) (by simpa using ew) ⟨rfl,fin⟩) hs
theorem zew:IxR X znN:=by
 intro value slice pins s σ H x y v u Q I rx ry h hs
 obtain⟨z,i,c,rfl,rfl,hz,he,q⟩:=h
 obtain⟨t,rfl⟩:=rx
 obtain⟨t',rfl⟩:=ry
 obtain⟨j,h1,h2,h3,h4,h5⟩:=zbQ he
 have hl:z.cps.toList.length=z.length:=by simp[Str.length]
 rw[hl] at h1 h4 h5
 have hn:=Ux
 exact tail_any (typeIs_str s z t) slot_str_getitem.lookup (getItem_str (c:=c) (by
  have e1:decide (i < -(2^63:Int))=false:=decide_eq_false (by omega)
  have e2:decide (i >= 2^63)=false:=decide_eq_false (by omega)
  rw[e1,e2,Bool.or_false]) (by rw[h1];simpa using h2) ⟨.str ⟨#[c]⟩,H,I.tok _,⟨_,rfl⟩,q⟩) hs
theorem zbR (lo hi:Option Int)(n:Nat):(sliceBounds lo hi none n).1=((HT.Zf n 0 lo:Nat):Int)/\(sliceBounds lo hi none n).2.1=((HT.Zf n n hi:Nat):Int)/\(sliceBounds lo hi none n).2.2=1:=by
 refine⟨?_,?_,rfl⟩
 ·cases lo with
  | none=>simp[sliceBounds,HT.Zf]
  | some i =>
   simp only[sliceBounds,HT.Zf,Option.getD_none,show(1:Int) > 0 by decide,if_true]
   by_cases h:i<0
   ·simp only[h,if_true]<;>omega
   ·simp only[h,if_false]<;>omega
 ·cases hi with
  | none=>simp[sliceBounds,HT.Zf]
  | some i =>
   simp only[sliceBounds,HT.Zf,Option.getD_none,show(1:Int) > 0 by decide,if_true]
   by_cases h:i<0
   ·simp only[h,if_true]<;>omega
   ·simp only[h,if_false]<;>omega
theorem zaB (its:List Value)(lo hi:Option Int):slicePick its.toArray lo hi none=((its.drop (HT.Zf its.length 0 lo)).take (HT.Zf its.length its.length hi-HT.Zf its.length 0 lo)).toArray:=by
 obtain⟨h1,h2,h3⟩:=zbR lo hi its.toArray.size
 unfold slicePick
 rw[h1,h2,h3]
 simp only[sliceRange_one,pick_run,zrC]<;>rfl
def znO (K:Frag):V->Option Int->Option Int->Hp->VK->Prop:=fun x lo hi H Q=>∃a xs,x=.ref a/\zX K H a xs/\∀p,H p=none->Q (.ref p) (upd H p (.lst (zaA xs lo hi)))
theorem zm8:SlR X (znO X.K):=by
 intro pins s σ H x v vl vu lo hi sl Q I rx hs pl pu h
 obtain⟨a,xs,rfl,hx,q⟩:=h
 cases rx
 obtain⟨its,r,ht,hz⟩:=I.list hx
 have hlen:=r.length
 refine⟨"list", _,slot_list_getitem.lookup,ht.isList.typeIs,?_⟩
 refine wpAny_getItem_list_slice ht.isList hs pl pu .none (by simp) ?_ (by rw[zrC]<;>omega)
 rw[zaB,<-hlen]
 refine⟨.ref s.heap.objs.size,_,I.laid (t':=s.toks) (o:=.lst (zaA xs lo hi)) (fun b ob q=>zry _ q) (zrI _) ?_,rfl,q _ (I.hok.fresh (zrI _))⟩
 exact⟨zrO (Lp xs lo hi) hz,_,0,(r.drop (HT.Zf xs.length 0 lo)).take (HT.Zf xs.length xs.length hi-HT.Zf xs.length 0 lo),zrN _ rfl⟩
def wD:V->Bool
 | .non=>true
 | .bl _=>true
 | .int _=>true
 | .str _=>true
 | _=>false
def eqV:V->V->Bool
 | .non,.non=>true
 | .bl a,.bl b=>a==b
 | .bl a,.int b=>(if a then 1 else 0)==b
 | .int a,.bl b=>a==(if b then 1 else 0)
 | .int a,.int b=>a==b
 | .str a,.str b=>a==b
 | _,_=>false
theorem zg1 {A:Around}{s:Shared}{y x:V}{u v:Value}(ry:RelV y u)(rx:RelV x v)(fy:wD y=true)(fx:wD x=true):SeqAt.EqAt A s u v (eqV y x):=by
 cases y with
 | non =>
  cases ry
  cases x with
  | non=>cases rx;exact SeqAt.EqAt.same _
  | bl b=>cases rx;exact SeqAt.EqAt.none_bool b
  | int b=>obtain⟨t,rfl⟩:=rx;exact SeqAt.EqAt.none_int b t
  | str b=>obtain⟨t,rfl⟩:=rx;exact SeqAt.EqAt.none_str b t
  | _=>exact absurd (show false=true from fx) zrw
 | bl a =>
  cases ry
  cases x with
  | non=>cases rx;exact SeqAt.EqAt.bool_none a
  | bl b=>cases rx;exact SeqAt.EqAt.bool_bool a b
  | int b=>obtain⟨t,rfl⟩:=rx;exact SeqAt.EqAt.bool_int a b t
  | str b=>obtain⟨t,rfl⟩:=rx;exact SeqAt.EqAt.bool_str a b t
  | _=>exact absurd (show false=true from fx) zrw
 | int a =>
  obtain⟨t',rfl⟩:=ry
  cases x with
  | non=>cases rx;exact SeqAt.EqAt.int_none a t'
  | bl b=>cases rx;exact SeqAt.EqAt.int_bool a t' b
  | int b=>obtain⟨t,rfl⟩:=rx;exact SeqAt.EqAt.int_int a t' b t
  | str b=>obtain⟨t,rfl⟩:=rx;exact SeqAt.EqAt.int_str a t' b t
  | _=>exact absurd (show false=true from fx) zrw
 | str a =>
  obtain⟨t',rfl⟩:=ry
  cases x with
  | non=>cases rx;exact SeqAt.EqAt.str_none a t'
  | bl b=>cases rx;exact SeqAt.EqAt.str_bool a t' b
  | int b=>obtain⟨t,rfl⟩:=rx;exact SeqAt.EqAt.str_int a t' b t
  | str b=>obtain⟨t,rfl⟩:=rx;exact SeqAt.EqAt.str_str a t' b t
  | _=>exact absurd (show false=true from fx) zrw
 | _=>exact absurd (show false=true from fy) zrw
def eqU (x:V)(u:Value):Bool:=match u with
 | .none=>eqV .non x
 | .bool b=>eqV (.bl b) x
 | .int i _=>eqV (.int i) x
 | .str z _=>eqV (.str z) x
 | _=>false
theorem zbS {x y:V}{u:Value}(r:RelV y u)(f:wD y=true):eqU x u=eqV y x:=by
 cases y with
 | non=>cases r;rfl
 | bl b=>cases r;rfl
 | int i=>obtain⟨t,rfl⟩:=r;rfl
 | str z=>obtain⟨t,rfl⟩:=r;rfl
 | _=>exact absurd (show false=true from f) zrw
theorem QF {x:V}:∀{xs:List V} {us:List Value},Vals xs us->xs.all wD=true->us.any (eqU x)=xs.any fun y=>eqV y x
 | _,_,.nil,_=>rfl
 | y::xs,u::us,.cons r t,f=>by
  rw[List.all_cons,zrU] at f
  rw[List.any_cons,List.any_cons,zbS r f.1,QF t f.2]
theorem W2 {A:Around}{s:Shared}{x:V}{v:Value}(rx:RelV x v)(fx:wD x=true):∀{xs:List V} {us:List Value},Vals xs us->xs.all wD=true->∀u∈us,SeqAt.EqAt A s u v (eqU x u)
 | _,_,.nil,_=>fun u hu=>by cases hu
 | y::xs,u::us,.cons r t,f=>fun u' hu=>by
  rw[List.all_cons,zrU] at f
  rcases List.mem_cons.mp hu with rfl | hu
  ·rw[zbS r f.1];exact zg1 r rx f.1 fx
  ·exact W2 rx fx t f.2 u' hu
def inV (x:V)(xs:List V):Bool:=xs.any fun y=>eqV y x
def rIn (K:Frag)(neg:Bool):R2:=fun x y H Q=>∃p xs,y=.ref p/\(zX K H p xs\/vp K H p xs)/\wD x=true/\xs.all wD=true/\Q (.bl (if neg then !inV x xs else inV x xs)) H
theorem Mf:Uq X (compareOp .In) (rIn X.K false):=by
 intro pins s σ H x y v u Q I rx ry h
 obtain⟨p,xs,rfl,hq,fx,fs,q⟩:=h
 cases ry
 rcases hq with hq | hq
 ·obtain⟨its,r,pl,hz⟩:=I.list hq
  refine SeqAt.in_listAt (eqU x) pl.isList (fun w hw=>W2 rx fx r fs w (by simpa using hw)) ⟨.bl _,H,I,rfl,?_⟩
  rw[show its.toArray.any (eqU x)=its.any (eqU x) by simp,QF r fs]
  exact q
 ·obtain⟨its,r,pl,hz⟩:=I.tuple hq
  refine SeqAt.in_tupleAt (eqU x) pl (fun w hw=>W2 rx fx r fs w (by simpa using hw)) ⟨.bl _,H,I,rfl,?_⟩
  rw[show its.toArray.any (eqU x)=its.any (eqU x) by simp,QF r fs]
  exact q
theorem QG:Uq X (compareOp .NotIn) (rIn X.K true):=by
 intro pins s σ H x y v u Q I rx ry h
 obtain⟨p,xs,rfl,hq,fx,fs,q⟩:=h
 cases ry
 rcases hq with hq | hq
 ·obtain⟨its,r,pl,hz⟩:=I.list hq
  refine SeqAt.notIn_listAt (eqU x) pl.isList (fun w hw=>W2 rx fx r fs w (by simpa using hw)) ⟨.bl _,H,I,rfl,?_⟩
  rw[show its.toArray.any (eqU x)=its.any (eqU x) by simp,QF r fs]
  exact q
 ·obtain⟨its,r,pl,hz⟩:=I.tuple hq
  refine SeqAt.notIn_tupleAt (eqU x) pl (fun w hw=>W2 rx fx r fs w (by simpa using hw)) ⟨.bl _,H,I,rfl,?_⟩
  rw[show its.toArray.any (eqU x)=its.any (eqU x) by simp,QF r fs]
  exact q
theorem zK:YF X (.builtin "len") (fun xs H Q=>∃p ys,xs=[.ref p]/\(zX X.K H p ys\/vp X.K H p ys)/\Q (.int ys.length) H):=by
 intro pins s σ H xs us Q I r h
 obtain⟨p,ys,rfl,hq,q⟩:=h
 obtain⟨u,rfl,rx⟩:=vals1 r
 cases rx
 have hn:=Ux
 rcases hq with hq | hq
 ·obtain⟨its,r',pl,hz⟩:=I.list hq
  have hlen:=r'.length
  exact Calls.call_len_list pl.isList (by simp only[zrC]<;>omega) ⟨.int ys.length,H,I.tok _,⟨s.toks+1,by rw[zrC,hlen]⟩,q⟩
 ·obtain⟨its,r',pl,hz⟩:=I.tuple hq
  have hlen:=r'.length
  exact len_tuple pl (by simp only[zrC]<;>omega) ⟨.int ys.length,H,I.tok _,⟨s.toks+1,by rw[zrC,hlen]⟩,q⟩
theorem QJ:YF X (.builtin "len") (fun xs H Q=>∃z,xs=[.str z]/\z.length<=sizeLine/\Q (.int z.length) H):=by
 intro pins s σ H xs us Q I r h
 obtain⟨z,rfl,hz,q⟩:=h
 obtain⟨u,rfl,t,rfl⟩:=vals1 r
 have hn:=Ux
 exact len_str (by omega) ⟨.int z.length,H,I.tok _,⟨_,rfl⟩,q⟩
theorem Vv:YF X (.type "list") (fun xs H Q=>∃p ys,xs=[.ref p]/\(zX X.K H p ys\/vp X.K H p ys)/\∀l,H l=none->Q (.ref l) (upd H l (.lst ys))):=by
 intro pins s σ H xs us Q I r h
 obtain⟨p,ys,rfl,hq,q⟩:=h
 obtain⟨u,rfl,rx⟩:=vals1 r
 cases rx
 have fin:∀(its:List Value),Vals ys its->ys.length<=sizeLine->∀(h':Heap) (c':Nat),(∀b o',s.heap.get? b=some o'->h'.get? b=some o') ->
   h'.get? s.heap.objs.size=some { cls:=.type "list", dict:=none,data:=.seq its.toArray c',slots:=#[] }->EP X pins σ Q (.ref s.heap.objs.size) { s with heap:=h' }:=fun its r' hz h' c' kp e =>
  ⟨.ref s.heap.objs.size,_,I.laid (t':=s.toks) kp (zrI _) (show wM X.prog X.w _ h' _ (.lst ys) from ⟨hz,its,c',r',e⟩),rfl,q _ (I.hok.fresh (zrI _))⟩
 rcases hq with hq | hq
 ·obtain⟨its,r',pl,hz⟩:=I.list hq
  have hlen:=r'.length
  obtain⟨o,ho,hc,n,hd⟩:=pl.isList
  exact call_list_seq p (.inl rfl) ho hc hd (fun h' c' kp e=>fin its r' hz h' c' kp e) (by simp only[zrC]<;>omega)
 ·obtain⟨its,r',pl,hz⟩:=I.tuple hq
  have hlen:=r'.length
  obtain⟨o,ho,hc,n,hd⟩:=pl
  exact call_list_seq p (.inr rfl) ho hc hd (fun h' c' kp e=>fin its r' hz h' c' kp e) (by simp only[zrC]<;>omega)
def tyV (K:Frag)(T:String)(x:V)(H:Hp):Prop:=match x with
 | .str _=>T="str"
 | .int _=>T="int"
 | .ref p=>(T="list" /\ ∃xs,zX K H p xs)\/(T="tuple" /\ ∃o,K.lookup p=some o/\o.cls=.type "tuple" /\ o.dict=none) \/
   (T="dict" /\ ((∃kvs,H p=some (.dK kvs))\/∃kvs,H p=some (.dT kvs)))\/(T="set" /\ ∃S n,H p=some (.set S n))
 | _=>False
theorem zbT {pins:List (Addr×Obj)}{σ:St}{H:Hp}{s:Shared}{T:String}{x:V}{v:Value}(I:Inv X pins σ H s)(r:RelV x v)(ty:tyV X.K T x H) :
  s.TypeIs v T/\∀a,v=.ref a->∃ob,s.heap.get? a=some ob/\ob.dict=none:=by
 cases x with
 | str z =>
  obtain⟨t,rfl⟩:=r
  cases (show T="str" from ty)
  exact⟨typeIs_str s z t,fun _ e=>nomatch e⟩
 | int i =>
  obtain⟨t,rfl⟩:=r
  cases (show T="int" from ty)
  exact⟨typeIs_int s i t,fun _ e=>nomatch e⟩
 | ref p =>
  cases r
  rcases ty with ⟨rfl,xs,hq⟩ | ⟨rfl,o,hk,hc,hd⟩ | ⟨rfl,hk⟩ | ⟨rfl,S,n,hk⟩
  ·obtain⟨its,_,pl,_⟩:=I.list hq
   refine⟨pl.isList.typeIs,fun a e=>?_⟩
   cases e
   obtain⟨o,n,e,c,hd,_⟩:=pl
   exact⟨o,e,hd⟩
  ·refine⟨⟨o,I.N6 p o hk,hc⟩,fun a e=>?_⟩
   cases e
   exact⟨o,I.N6 _ o hk,hd⟩
  ·have z:∃o,s.heap.get? p=some o/\o.ExactDict:=by
    rcases hk with ⟨kvs,hk⟩ | ⟨kvs,hk⟩
    ·obtain⟨_,_,_,_,o,_,_,e,ex,_⟩:=I.hok p _ hk
     exact⟨o,e,ex⟩
    ·obtain⟨_,_,_,_,o,_,_,e,ex,_⟩:=I.hok p _ hk
     exact⟨o,e,ex⟩
   obtain⟨o,e,ex⟩:=z
   refine⟨⟨o,e,ex.1⟩,fun a e2=>?_⟩
   cases e2
   exact⟨o,e,ex.2.1⟩
  ·obtain⟨o,_,_,_,e,ex,_⟩:=I.hok p _ hk
   refine⟨⟨o,e,ex.1⟩,fun a e2=>?_⟩
   cases e2
   exact⟨o,e,ex.2.1⟩
 | _=>exact False.elim ty
def znQ (K:Frag)(T:String)(r:V->List V->Hp->VK->Prop)(to:TE):TE:=fun σ H Q=>to σ H fun x H1=>tyV K T x H1/\r x [] H1 Q
def tBM (K:Frag)(T:String)(r:V->List V->Hp->VK->Prop)(to:TE)(t:TA):TE:=fun σ H Q=>to σ H fun x H1=>tyV K T x H1/\t σ H1 fun xs H2=>r x xs H2 Q
variable {o e:Expr}{es:List Expr}{to:TE}{t:TA}{name:Str}{apos cpos:Pos}{T id:String}{r:V->List V->Hp->VK->Prop}
theorem zkH (pa:PlainAttrs T)(slot:Slot T name id)(hty:typeOf (.builtin id)=pure (.type "method_descriptor"))(hm:MtR X id r)(ho:PE X o to)
  (hbase:attributeBase o name X.env (eval o X.env)=eval o X.env:=by rfl)(hline:(apos.endLine==cpos.line)=true:=by rfl):PE X (.Call (.Attribute o name apos) [] [] cpos) (znQ X.K T r to):=by
 intro pins s σ H Q I h
 refine wpAny_Call_method0_late hbase hline (wQ (ho pins s σ H _ I h) fun v s1 ⟨x,H1,I1,r1,ty,q1⟩=>?_)
 obtain⟨h1,h2⟩:=zbT I1 r1 ty
 exact⟨T,id,pa,slot,hty,h1,h2,Calls.callWith_builtin rfl (PySem.evalArgs_none (hm pins s1 σ H1 x [] v [] Q I1 r1 .nil q1))⟩
theorem ZQ (pa:PlainAttrs T)(slot:Slot T name id)(hty:typeOf (.builtin id)=pure (.type "method_descriptor"))(hm:MtR X id r)(ho:PE X o to)(ha:PA X (e::es) t)
  (hbase:attributeBase o name X.env (eval o X.env)=eval o X.env:=by rfl)
  (hfew:((backTo cpos (starEach (e::es) X.env)).all (fun x=>!x.1)&&(backToKw cpos (keywordEach [] X.env)).all (fun x=>x.1.isSome)
   && decide ((e::es).length+([]:List Keyword).length+(if ([]:List Keyword).isEmpty then 0 else 1)<30))=true:=by rfl)
  (hline:(apos.endLine==cpos.line)=true:=by rfl)(hs:starEach (e::es) X.env=(false,eval e X.env)::starEach es X.env:=by rfl)(hplain:(backTo cpos (starEach es X.env)).any (·.1)=false:=by rfl) :
  PE X (.Call (.Attribute o name apos) (e::es) [] cpos) (tBM X.K T r to t):=by
 intro pins s σ H Q I h
 refine wpAny_Call_method_late hbase hfew hline rfl (wQ (ho pins s σ H _ I h) fun v s1 ⟨x,H1,I1,r1,ty,q1⟩=>?_)
 obtain⟨h1,h2⟩:=zbT I1 r1 ty
 refine⟨T,id,pa,slot,hty,h1,h2,?_⟩
 have hA:=ha cpos pins s1 σ H1 _ I1 q1
 rw[hs] at hA ⊢
 refine Calls.callWith_builtin (by show(false||(backTo cpos (starEach es X.env)).any (·.1))=false;rw[hplain]<;>rfl) (Calls.evalArgs_plain ?_)
 exact wQ hA fun us s2 ⟨vs,H2,I2,r2,q2⟩=>hm pins s2 σ H2 x vs v us Q I2 r1 r2 q2
end
def MtM (X:Cx)(id:String)(r:V->List V->Hp->VK->Prop):Prop :=
 ∀(pins:List (Addr×Obj)) (s:Shared) (σ:St) (H:Hp) (x:V) (xs:List V) (v:Value) (us:List Value) (Q:VK),Inv X pins σ H s->RelV x v->Vals xs us->r x xs H Q ->
  wpAny (model X.prog X.w) X.A (call (.builtin id) (v::us)) (EP X pins σ Q) X.xe s
theorem Vals.one:∀{x:V} {us:List Value},Vals [x] us->∃u,us=[u]/\RelV x u
 | _,_,.cons r .nil=>⟨_,rfl,r⟩
theorem Vals.two:∀{x y:V} {us:List Value},Vals [x,y] us->∃u v,us=[u,v]/\RelV x u/\RelV y v
 | _,_,_,.cons r (.cons q .nil)=>⟨_,_,rfl,r,q⟩
theorem Vals.zero:∀{us:List Value},Vals [] us->us=[]
 | _,.nil=>rfl
theorem Vals.dropLast {xs:List V}{us:List Value}(h:Vals xs us):Vals xs.dropLast us.dropLast:=by
 induction h with
 | nil=>exact .nil
 | cons r t ih =>
  cases t with
  | nil=>exact .nil
  | cons q t'=>exact .cons r ih
theorem zex {α:Type}(l:List α):l.eraseIdx (l.length-1)=l.dropLast:=by
 induction l with
 | nil=>rfl
 | cons a r ih =>
  cases r with
  | nil=>rfl
  | cons b r =>
   have e:(a::b::r).length-1=((b::r).length-1)+1:=by
    have h1:(a::b::r).length=r.length+2:=rfl
    have h2:(b::r).length=r.length+1:=rfl
    omega
   rw[e,List.eraseIdx_cons_succ,ih]
   all_goals rfl
section
variable {X:Cx}{pins:List (Addr×Obj)}{σ:St}{H:Hp}{s:Shared}{l b:Addr}{xs ys zs:List V}
theorem Inv.zg2 {its its':List Value}{n:Nat}{f:Array Value->Array Value}{t':Nat}(I:Inv X pins σ H s)(hH:H l=some (.lst xs))
  (e:s.heap.get? l=some { cls:=.type "list", data:=.seq its.toArray n })(hf:f its.toArray=its'.toArray)(hv:Vals ys its')(hz:ys.length<=sizeLine) :
  Inv X pins σ (upd H l (.lst ys)) { s with heap:=s.heap.update l (Obj.mapSeq f),toks:=t' }:=by
 have q:=PySem.IsL.update e f
 rw[hf] at q
 refine I.write (x:=l) (e:=l) (by rw[hH];exact trivial) (.inl rfl) (fun b' u hb hu=>(Heap.get?_update_other s.heap (Obj.mapSeq f) (Ne.symm hb)).trans hu) ⟨_,q⟩ ?_
 exact⟨hz,its',_,hv,q⟩
theorem Inv.fresh (I:Inv X pins σ H s):H s.heap.objs.size=none:=I.hok.fresh (zrI _)
theorem Inv.zgc (I:Inv X pins σ H s)(hH:H l=some (.lst xs)):xs.length<=sizeLine/\∃(its:List Value) (n:Nat),Vals xs its/\xs.length=its.length/\s.heap.get? l=some { cls:=.type "list", data:=.seq its.toArray n }:=by
 obtain⟨z,its,n,r,e⟩:=I.hok l _ hH
 exact⟨z,its,n,r,r.length,e⟩
theorem zc4 {n:Nat}(h:n<=sizeLine):Builtin.List.listTooLong n=false:=by
 unfold Builtin.List.listTooLong
 exact decide_eq_false (by omega)
end
section
variable {X:Cx}
def ziA:V->List V->Hp->VK->Prop:=fun x vs H Q=>∃l xs y,x=.ref l/\vs=[y]/\H l=some (.lst xs)/\xs.length<sizeLine/\Q .non (upd H l (.lst (xs++[y])))
theorem tY:MtM X "list.append" ziA:=by
 intro pins s σ H x vs v us Q I rx rv h
 obtain⟨l,xs,y,rfl,rfl,hH,hz,q⟩:=h
 cases rx
 obtain⟨u,rfl,ru⟩:=rv.one
 obtain⟨z,its,n,r,hl,e⟩:=I.zgc hH
 refine call_meets F.slot_list_append ⟨_,e,rfl⟩ F.entry_list_append (F.args_list_append_2 _ _) (PySem.list_append l its.toArray n u (by rw[zrC];omega)) ⟨e,?_⟩
 refine⟨.non,_,I.zg2 (its':=its++[u]) hH e (by simp) (r.append (.cons ru .nil)) ?_,rfl,q⟩
 rw[zrA,zr0]
 omega
def ziB:V->List V->Hp->VK->Prop:=fun x vs H Q=>∃l b xs zs,x=.ref l/\vs=[.ref b]/\H l=some (.lst xs)/\H b=some (.lst zs)/\xs.length+zs.length<=sizeLine/\Q .non (upd H l (.lst (xs++zs)))
theorem zbb:MtM X "list.extend" ziB:=by
 intro pins s σ H x vs v us Q I rx rv h
 obtain⟨l,b,xs,zs,rfl,rfl,hH,hB,hz,q⟩:=h
 cases rx
 obtain⟨u,rfl,ru⟩:=rv.one
 cases ru
 obtain⟨z,its,n,r,hl,e⟩:=I.zgc hH
 obtain⟨z2,its2,n2,r2,hl2,e2⟩:=I.zgc hB
 have hsz:its.toArray.size+its2.toArray.size<=sizeLine:=by rw[zrC,zrC];omega
 have zg3:¬(!its.toArray.isEmpty&&Builtin.List.listTooLong (its.toArray.size+its2.toArray.size))=true:=by
  rw[zc4 hsz,Bool.and_false]
  exact zrw
 refine call_meets F.slot_list_extend ⟨_,e,rfl⟩ F.entry_list_extend (F.args_list_extend_2 _ _)
  (AutoSeq1.list_extend_list_list_0 l its.toArray n b its2.toArray n2 zg3 (by rw[zrC];omega) (by omega)) ⟨e,e2,?_⟩
 refine⟨.non,_,I.zg2 (its':=its++its2) hH e (by simp) (r.append r2) ?_,rfl,q⟩
 rw[zrA]
 omega
def znR:V->List V->Hp->VK->Prop:=fun x vs H Q=>∃l xs y,x=.ref l/\vs=[]/\H l=some (.lst xs)/\xs[xs.length-1]?=some y/\Q y (upd H l (.lst xs.dropLast))
theorem zkI:MtM X "list.pop" znR:=by
 intro pins s σ H x vs v us Q I rx rv h
 obtain⟨l,xs,y,rfl,rfl,hH,hy,q⟩:=h
 cases rx
 have hus:=rv.zero
 subst hus
 obtain⟨z,its,n,r,hl,e⟩:=I.zgc hH
 obtain⟨u,hu,ru⟩:=r.get hy
 have hy':its.toArray[its.toArray.size-1]?=some u:=by
  show its.toArray[its.length-1]?=some u
  rw[<-Array.getElem?_toList,<-hl]
  exact hu
 refine call_meets F.slot_list_pop ⟨_,e,rfl⟩ F.entry_list_pop (F.args_list_pop_1 _) (MeetsSeq.list_pop_last l its.toArray n u hy' (by rw[zrC];omega)) ⟨e,?_⟩
 refine⟨y,_,I.zg2 (its':=its.dropLast) hH e ?_ r.dropLast ?_,ru,q⟩
 ·show its.toArray.eraseIdxIfInBounds (its.toArray.size-1)=its.dropLast.toArray
  rw[zrC,List.eraseIdxIfInBounds_toArray,zex]
 ·rw[List.length_dropLast]
  omega
end
end L2
namespace Att
open PySem PySem.W PySem.Calls PyProof.Rows
theorem KD {P:Params}{h:Heap}:∀(ns:List Int) (vs:List Value),WellAll P h vs (ns.map WData.int)->IntsAre vs ns:=by
 intro ns
 induction ns with
 | nil =>
  intro vs w
  rw[List.map_nil] at w
  cases w
  exact .nil
 | cons n ns ih =>
  intro vs w
  rw[zrR] at w
  cases w with
  | cons a b =>
   cases a
   exact .cons _ _ (ih _ b)
theorem zgd {l:OpenLaw}{n:Nat}(hn:l.most=some n){P:Params}{h:Heap}{args:List WData}{vals:List Value}
  (hpre:l.row.toRowW.claim.pre args=true)(hwl:WellAll P h vals args) :
  ∃a vs ns,vals=[Value.ref a]/\args=[WData.list (ns.map WData.int)]/\h.get? a=some { cls:=.type "list", data:=.seq vs.toArray }/\IntsAre vs ns/\ns.length<=n:=by
 have hsh:WShape.hasAll [] args [.list .int]=true:=(pre_splitW hpre).1
 have hc:l.pre.holds [] { args:=args }=true:=(pre_splitW hpre).2
 obtain⟨d,r,rfl,h1,h2⟩:=hasAllW_cons hsh
 obtain rfl:=hasAllW_nil h2
 obtain⟨xs,rfl,h3⟩:=hasW_list h1
 obtain⟨ns,rfl⟩:=items_int h3
 have hlen:ns.length<=n:=by
  unfold OpenLaw.pre at hc
  have h4:(WTm.not (.lt (.lit (.int (n:Int))) (.len (.arg 0)))).holds [] { args:=[.list (ns.map .int)] }=true:=by
   have h4:=(holds_andW hc).1
   rw[hn] at h4
   exact h4
  have h5:=condW_of h4 (w_not (w_lt w_lit (w_len_list (w_arg rfl))))
  rw[zrs] at h5
  refine Nat.le_of_not_lt fun q=>?_
  have q':(n:Int)<((ns.length:Nat):Int):=by omega
  first
   | (rw[decide_eq_true q'] at h5;exact absurd h5 (by decide))
   | (simp at h5;omega)
 cases hwl with
 | cons w1 w2 =>
  cases w2
  cases w1 with
  | list ho hall=>exact⟨_,_,ns,rfl,rfl,ho,KD ns _ hall,hlen⟩
theorem zge (l:OpenLaw)(args:List WData):l.row.toRowW.claim.post args (.bool true) args=true :=
 postW_of (r:=l.row.toRowW) (X:=(true==true))
  (show WShape.has [] (.bool true) .bool=true by first | rfl | decide | simp[WShape.has,WShape.arms,WShape.armsAll])
  (show(WTm.eq .res (.lit (.bool true))).value [] { args:=args,res:=some (.bool true),after:=args }=some (.bool (true==true)) from w_eq_bool (w_res rfl) w_lit) rfl
theorem zc5 {l:OpenLaw}{n:Nat}{q:Program}{loose:List Str}{XP:(Str->Option Value)->Heap->Prop}{YP:World->Heap->Prop}{d:DefRec}
  (hn:l.most=some n)(hdf:d.params.defaults=[])
  (call:∀(w:World) (s₀ s₁:Shared) (mg mb:Str->Option Value) (fa:Addr) (o:Obj) (pm cd doc:Value) (a:Addr) (vs:List Value) (ns:List Int),
   Ground q loose [] XP w s₀ mg mb s₁.heap->YP w s₁.heap ->
   s₁.heap.get? fa=some o->o.data=.func (docDef d.name d.params d.body d.scope pm cd doc)->s₁.heap.CodeRec cd d.name->mg d.name=some (.ref fa) ->
   s₁.heap.get? a=some { cls:=.type "list", data:=.seq vs.toArray }->IntsAre vs ns->ns.length<=n->s₁.gens=#[] ->
   codeAny (model l.prog w) callerA (.call (.ref fa) ⟨[.ref a],[]⟩) (fun r s'=>r=.ok (.ret (.bool true))/\OldK s₁.heap s'.heap/\s'.os=s₁.os/\AllBare s'.gens) s₁) :
  WalkO q loose XP YP l.row.toRowW d [] (fun f vs=>PySem.call f vs):=by
 intro w s₀ s₁ mg mb G Y fa o pm cd doc dV kV ho hd hcd hD hmg hg args vals as hpre hlay hrd hwl hlo
 obtain rfl:dV=.none:=Dflts.none hD hdf
 obtain rfl:kV=.none:=Dflts.noKw hD
 obtain⟨a,vs,ns,rfl,rfl,hobj,hints,hlen⟩:=zgd hn hpre hwl
 refine enter_call (codeAny_mono (call w s₀ s₁ mg mb fa o pm cd doc a vs ns G Y ho (fd_plain hd) hcd hmg hobj hints hlen hg) fun r s' hq=>?_)
 obtain⟨rfl,h2,h3,h4⟩:=hq
 exact⟨.inl ⟨.bool true,.bool true,[],rfl,fun _=>rfl,.bool true,zge l _,fun _=>⟨List.Pairwise.nil,fun _ hm=>(nomatch hm)⟩⟩,h2,h3,h4⟩
end Att
namespace L2
open PySem PySem.Spec PyProof.Rows
theorem Mg:∀{vs:List Value} {ns:List Int},IntsAre vs ns->Vals (ns.map V.int) vs
 | _,_,.nil=>.nil
 | _,_,.cons n t h=>.cons ⟨t,rfl⟩ (Mg h)
def Only (H:Hp):Prop:=∀b,H b=none\/∃o xs,H b=some (.Ji o (.lst xs))
theorem zg4 {P:Program}{w:World}{K:Frag}{mg mb:Str->Option Value}{CX:CXT}{k:Nat}{fa a:Addr}{fd:FuncData}{x:Str}{sp:Sp}{s₁:Shared}{vs:List Value}{ns:List Int}
  (KX:K.In s₁.heap)(hns:s₁.heap.Ns mainGlobals mg)(hb:s₁.heap.Ns builtinsNs mb)(hbb:∀x:Str,x ≠ "__name__" -> mb x=bootBuiltins x)(hlim:s₁.heap.NoLimit)(hg:s₁.gens=#[])
  (ha:s₁.heap.get? a=some { cls:=.type "list", data:=.seq vs.toArray })(hi:IntsAre vs ns)(hl:ns.length<=sizeLine)(hr:Zc k callerA)
  (F:∀base:Heap,K.In base->base.Ns mainGlobals mg->zA P w K mg base CX k fa fd [x] sp)(hbind:∀(s:Shared) (u:Value),BindsTo s fd ⟨[u],[]⟩ [(x,u)])
  (hsp:∀H:Hp,Only H->zX K H a (ns.map V.int)->sp [.ref a] H (fun v _=>v=.bl true) fun _ _ _=>False)
  (hCX:∀H e s',CX [] H s₁ (fun _ _ _=>False) e s'->False) :
  codeAny (model P w) callerA (.call (.ref fa) ⟨[.ref a],[]⟩) (fun r s'=>r=.ok (.ret (.bool true))/\OldK s₁.heap s'.heap/\s'.os=s₁.os/\AllBare s'.gens) s₁:=by
 have rv:=Mg hi
 have lenV:=hi.length
 have core:∀H:Hp,Only H->zX K H a (ns.map V.int)->S9 P w H s₁.heap->(∀b,H b≠none->b=a)->(H a≠none->K.lookup a=none) ->
   codeAny (model P w) callerA (.call (.ref fa) ⟨[.ref a],[]⟩) (fun r s'=>r=.ok (.ret (.bool true))/\OldK s₁.heap s'.heap/\s'.os=s₁.os/\AllBare s'.gens) s₁:=by
  intro H hO hS hok hA hK
  have zfn:∀{b:Addr} {o:Obj},s₁.heap.get? b=some o->H b=none->(zbI s₁.heap H).get? b=some o:=fun e n=>zgM e n
  have noA:∀{b:Addr} {o:Obj} {es:Array DictEntry} {ep:Nat},s₁.heap.get? b=some o->o.data=.dict es ep->H b=none:=fun {b o es ep} e d=>by
   cases q:H b with
   | none=>rfl
   | some u =>
    have e':b=a:=hA b (by rw[q];simp)
    subst e'
    rw[ha] at e;cases e
    have d':Data.seq vs.toArray _=Data.dict es ep:=d
    cases d'
  have nsK:∀{b:Addr} {m:Str->Option Value},s₁.heap.Ns b m->(zbI s₁.heap H).Ns b m:=fun {b m} ⟨o,es,ep,e,d,r⟩=>⟨o,es,ep,zfn e (noA e d),d,r⟩
  have hKb:K.In (zbI s₁.heap H):=fun b o e=>zfn (KX b o e) (by
   cases q:H b with
   | none=>rfl
   | some u =>
    have e':b=a:=hA b (by rw[q];simp)
    subst e'
    rw[hK (by rw[q];simp)] at e;cases e)
  have hM:Mod K mg (zbI s₁.heap H):=⟨hKb,nsK hns,⟨mb,nsK hb,hbb⟩,let ⟨mc,h1,h2⟩:=hlim;⟨mc,nsK h1,h2⟩⟩
  have e0:zer P w K mg (zbI s₁.heap H) callerA [] s₁ H:=⟨rfl,hM,fun b o e=>zim e,Nat.le_of_eq (zfY _ _),trivial,fun b hb=>absurd (show b∈([]:List Addr) from hb) (by simp),hok,.of_eq hg⟩
  refine codeAny_mono ((F _ hKb (nsK hns)).run callerA [] s₁ H ⟨[.ref a],[]⟩ [.ref a] [.ref a] _ _ hr e0 (hbind s₁ (.ref a)) (.cons rfl .nil) (hsp H hO hS)) fun r s' h=>?_
  cases r with
  | error e=>exact(hCX H e s' h).elim
  | ok fl =>
   cases fl with
   | next=>exact False.elim h
   | brk=>exact False.elim h
   | cont=>exact False.elim h
   | ret u =>
    obtain⟨v,H',os,bare,un,hok',r',q⟩:=h
    have q':v=.bl true:=q
    subst q'
    obtain rfl:u=Value.bool true:=r'
    refine⟨rfl,OldK.of_keep fun b o e=>?_,os,bare⟩
    cases q:H b with
    | none=>exact un.keep b o e q (by intro z;exact absurd (show b∈([]:List Addr) from z) (by simp)) (by simp)
    | some u =>
     rcases hO b with z | ⟨ob,xs,z⟩
     ·rw[q] at z;cases z
     ·have z2:=un.zax b ob _ z
      obtain⟨e1,_⟩:=hok b _ z
      obtain⟨e2,_⟩:=hok' b _ z2
      rw[e] at e1;cases e1
      exact e2
 cases hk:K.lookup a with
 | some o =>
  have e:=KX a o hk
  rw[ha] at e
  cases e
  refine core (fun _=>none) (fun _=>.inl rfl) (.inr ⟨_,vs.toArray,_,hk,rfl,rfl,rfl,by rw[zrC,lenV];exact hl,by simpa using rv⟩) (fun b u z=>by have z':(none:Option HO)=some u:=z;cases z') (fun b z=>absurd rfl z) fun z=>absurd rfl z
 | none =>
  refine core (fun b=>if b=a then some (.Ji { cls:=.type "list", data:=.seq vs.toArray } (.lst (ns.map V.int))) else none) (fun b=>?_) (.inl (.inr ⟨{ cls:=.type "list", data:=.seq vs.toArray },if_pos rfl⟩)) (fun b u z=>?_) (fun b z=>?_) fun _=>hk
  ·by_cases hb:b=a
   ·exact .inr ⟨_,_,if_pos hb⟩
   ·exact .inl (if_neg hb)
  ·by_cases hb:b=a
   ·have z':=(if_pos hb).symm.trans z
    cases z'
    subst hb
    exact⟨ha,by rw[zrs];exact hl,vs,_,rv,ha⟩
   ·have z':=(if_neg hb).symm.trans z
    cases z'
  ·by_cases hb:b=a
   ·exact hb
   ·exact absurd (if_neg hb) z
abbrev KOf {K:Frag}{h:Heap}(_:K.In h):Frag:=K
theorem ziC {l:PySem.W.OpenLaw}{n k:Nat}{q:Program}{loose:List Str}{XP:(Str->Option Value)->Heap->Prop}{YP:World->Heap->Prop}{d:DefRec}{K:Params->Frag}{CX:World->CXT}{sp:World->Sp}{x:Str}
  (hn:l.most=some n)(hn2:n<=sizeLine)(hdf:d.params.defaults=[])(hr:Zc k callerA)
  (hY:∀(w:World) (h:Heap),YP w h->(K w.params).In h)
  (F:∀(w:World) (mg:Str->Option Value) (fa:Addr) (h:Heap),(K w.params).In h->h.Ns mainGlobals mg->mg d.name=some (.ref fa) ->
   ∃fd:FuncData,(∀(s:Shared) (u:Value),BindsTo s fd ⟨[u],[]⟩ [(x,u)]) /\
    ∀base:Heap,(K w.params).In base->base.Ns mainGlobals mg->zA l.prog w (K w.params) mg base (CX w) k fa fd [x] (sp w))
  (hsp:∀(w:World) (H:Hp) (a:Addr) (ns:List Int),ns.length<=n->Only H->zX (K w.params) H a (ns.map V.int)->sp w [.ref a] H (fun v _=>v=.bl true) fun _ _ _=>False)
  (hCX:∀(w:World) (H:Hp) (s:Shared) (e:Value) (s':Shared),CX w [] H s (fun _ _ _=>False) e s'->False) :
  PySem.W.WalkO q loose XP YP l.row.toRowW d [] (fun f vs=>PySem.call f vs):=by
 refine Att.zc5 hn hdf fun w s₀ s₁ mg mb fa o pm cd doc a vs ns G Y ho hd hcd hmg hobj hints hlen hg=>?_
 have KX:=hY w _ Y
 obtain⟨fd,hb,hF⟩:=F w mg fa _ KX G.T.g hmg
 exact zg4 KX G.T.g G.T.b G.T.builtins G.T.nolimit hg hobj hints (zrO hlen hn2) hr hF hb (fun H hO hS=>hsp w H a ns hlen hO hS) fun H e s'=>hCX w H s₁ e s'
theorem zg5 {l:PySem.W.OpenLaw}{n k:Nat}{q:Program}{loose:List Str}{XP:(Str->Option Value)->Heap->Prop}{YP:World->Heap->Prop}{d:DefRec}{K:Params->Frag}{CX:CXT}{sp:Frag->Sp}{x:Str}
  (hn:l.most=some n)(hn2:n<=sizeLine)(hdf:d.params.defaults=[])(hr:Zc k callerA)
  (hY:∀(w:World) (h:Heap),YP w h->(K w.params).In h)
  (F:∀(w:World) (mg:Str->Option Value) (fa:Addr) (h:Heap),(K w.params).In h->h.Ns mainGlobals mg->mg d.name=some (.ref fa) ->
   ∃fd:FuncData,(∀(s:Shared) (u:Value),BindsTo s fd ⟨[u],[]⟩ [(x,u)]) /\
    ∀base:Heap,(K w.params).In base->base.Ns mainGlobals mg->zA l.prog w (K w.params) mg base CX k fa fd [x] (sp (K w.params)))
  (hsp:∀(K:Frag) (H:Hp) (a:Addr) (ns:List Int),ns.length<=n->Only H->zX K H a (ns.map V.int)->sp K [.ref a] H (fun v _=>v=.bl true) fun _ _ _=>False)
  (hCX:∀(H:Hp) (s:Shared) (e:Value) (s':Shared),CX [] H s (fun _ _ _=>False) e s'->False) :
  PySem.W.WalkO q loose XP YP l.row.toRowW d [] (fun f vs=>PySem.call f vs) :=
 ziC (K:=K) (CX:=fun _=>CX) (sp:=fun w=>sp (K w.params)) hn hn2 hdf hr hY F (fun w H a ns h1 h2 h3=>hsp (K w.params) H a ns h1 h2 h3) fun _ H s e s'=>hCX H s e s'
def inClass (s:Stmt)(j:Nat):Stmt:=match s with
 | .ClassDef _ _ _ body _ _ _ _ _ _ _=>body.getD j (.Pass ⟨0,0,0,0⟩)
 | _=>.Pass ⟨0,0,0,0⟩
def Ye (s:Stmt):Arguments:=match s with
 | .FunctionDef _ a _ _ _ _ _ _ _ _=>a
 | _=>{ posonlyargs:=[],args:=[],vararg:=none,kwonlyargs:=[],kw_defaults:=[],kwarg:=none,defaults:=[] }
def vR (s:Stmt):List Stmt:=match s with
 | .FunctionDef _ _ b _ _ _ _ _ _ _=>b
 | _=>[]
def zx (s:Stmt):Scope:=match s with
 | .FunctionDef _ _ _ _ _ _ sc _ _ _=>sc
 | _=>{ kind:=.function,names:=[],isGenerator:=false,isCoroutine:=false }
abbrev zU:CXT:=fun _ _ _ _ _ _=>False
abbrev E0:XK:=fun _ _ _=>False
theorem zfo {X:Cx}:Passes zU X E0:=fun _ _ _ _ _ _ _ h=>h.elim
structure Fun (K:Frag)(x qual:Str)(st:Stmt)(f:Addr)(fd:FuncData):Prop where
 ex:∃(oc:Value) (od:Option Addr) (kV doc pm:Value) (an:Option Addr) (cdv ct:Value) (osl:Array (Option Value)),
  fd=PySem.W.fnOf x qual (Ye st) (vR st) (zx st) .none kV doc pm an cdv ct/\K.lookup f=some ⟨oc,od,.func fd,osl⟩/\PySem.W.codeIn K cdv qual=true
 kp:PySem.W.keepIn K (.ref f)=true
section
variable {P:Program}{w:World}{K:Frag}{mg:Str->Option Value}{base:Heap}
theorem Fun.ok {x qual:Str}{st:Stmt}{f:Addr}{fd:FuncData}{N ps:List Str}{k:Nat}{sp:Sp}(F:Fun K x qual st f fd)(S:zG N ps (zx st))(len:∀vs H Q E,sp vs H Q E->vs.length=ps.length)
  (hbody:∀(cdv:Value) (A:Around) (outer:List Env) (s:Shared) (H:Hp) (vs:List V) (Q:VK) (E:XK),Zc k (A.deeper (envOfC qual (zx st) s.heap.objs.size f cdv))->sp vs H Q E ->
   ∃t,PSs (zga zU P w K mg base N qual (zx st) f cdv A outer s H E).nox (vR st) t/\t { nx:=fun _ H'=>Q .non H',rt:=Q } (start N vs) H):zA P w K mg base zU (k+1) f fd ps sp:=by
 obtain⟨oc,od,kV,doc,pm,an,cdv,ct,osl,rfl,lk,hcd⟩:=F.ex
 refine zl0 lk hcd S len fun A outer s H vs Q E hr hsp=>?_
 obtain⟨t,h,q⟩:=hbody cdv A outer s H vs Q E hr hsp
 exact⟨t,h.nox,q⟩
theorem Fun.binds {x qual:Str}{st:Stmt}{f:Addr}{fd:FuncData}{ps:List Str}(F:Fun K x qual st f fd)
  (h:∀(kV doc pm:Value) (an:Option Addr) (cdv ct:Value) (us:List Value),us.length=ps.length->bindArgs (PySem.W.fnOf x qual (Ye st) (vR st) (zx st) .none kV doc pm an cdv ct) ⟨us,[]⟩=pure (ps.zip us)):Binds K fd ps []:=by
 obtain⟨oc,od,kV,doc,pm,an,cdv,ct,osl,rfl,lk,hcd⟩:=F.ex
 exact .all (h kV doc pm an cdv ct)
theorem zbU {x qual:Str}{st:Stmt}{f:Addr}{oc:Value}{od an:Option Addr}{osl:Array (Option Value)}{kV doc pm cdv ct:Value}(l:K.lookup f=some ⟨oc,od,.func (PySem.W.fnOf x qual (Ye st) (vR st) (zx st) .none kV doc pm an cdv ct),osl⟩)
  (c:PySem.W.codeIn K cdv qual=true)(k:PySem.W.keepIn K (.ref f)=true):Fun K x qual st f (PySem.W.fnOf x qual (Ye st) (vR st) (zx st) .none kV doc pm an cdv ct):=⟨⟨oc,od,kV,doc,pm,an,cdv,ct,osl,rfl,l,c⟩,k⟩
end
theorem Jv {A:Around}{k:Nat}(hr:Zc k A):A.units+1<cLine:=Nat.lt_of_le_of_lt (Nat.add_le_add_left (by decide:1<=64) _) hr.units
theorem zY {n:Nat}(h:n<=1000):n<sizeLine:=Nat.lt_of_le_of_lt h (by decide)
section
variable {X:Cx}
theorem pv (i:Nat){x:Str}{pos:Pos}(hN:X.N[i]?=some x:=by rfl)(hv:Vis X.env.scope x:=by first | exact Or.inl rfl | exact Or.inr (Or.inl rfl) | exact Or.inr (Or.inr rfl))(hd:(x==("__debug__" : Str))=false:=by decide)
  (hcd:(x==("__classdict__" : Str))=false:=by decide):PE X (.Name x pos) (Jk i):=zko hN hv hd hcd
end
theorem RK {A B:Prop}(h:B):if false=true then A else B:=by
 rw[if_neg zrw]
 exact h
theorem zaC {A B:Prop}(h:A):if true=true then A else B:=by
 rw[if_pos rfl]
 exact h
theorem yu {c A B:Prop}[Decidable c](h1:c->A)(h2:¬c->B):if c then A else B:=by
 by_cases h:c
 ·rw[if_pos h]
  exact h1 h
 ·rw[if_neg h]
  exact h2 h
def Same (H H':Hp):Prop:=∀b o,H b=some o->H' b=some o
theorem Same.refl (H:Hp):Same H H:=fun _ _ h=>h
theorem Same.trans {H H1 H2:Hp}(a:Same H H1)(b:Same H1 H2):Same H H2:=fun c o h=>b c o (a c o h)
theorem Same.free {H H':Hp}(e:Same H H'){l:Addr}(h:H' l=Option.none):H l=Option.none:=by
 cases q:H l with
 | none=>rfl
 | some o =>
  rw[e l o q] at h
  cases h
theorem Same.seq {K:Frag}{H H':Hp}{a:Addr}{xs:List V}(e:Same H H')(h:zX K H a xs):zX K H' a xs:=by
 rcases h with (h | ⟨o,h⟩) | h
 ·exact .inl (.inl (e _ _ h))
 ·exact .inl (.inr ⟨o,e _ _ h⟩)
 ·exact .inr h
end L2
set_option maxHeartbeats 8000000
namespace L2
open PySem PySem.Spec PyProof.Rows
section
variable {X:Cx}{pins:List (Addr×Obj)}{σ:St}{H:Hp}{s:Shared}
theorem S9.track {P:Program}{w:World}{H:Hp}{h:Heap}{a:Addr}{o:HO}(x:S9 P w H h)(hn:H a=none)(new:wM P w (upd H a o) h a o):S9 P w (upd H a o) h:=fun b u e=>by
 by_cases hb:b=a
 ·subst hb
  rw[zj] at e
  cases e
  exact new
 ·rw[zB hb] at e
  refine(x b u e).stay (fun _ _ _ q=>q) (fun c q=>?_) fun c xs q=>?_
  ·rw[zB (zy q hn)];exact q
  ·rw[zB (zy q hn)];exact q
theorem Inv.track {a:Addr}{o:HO}(I:Inv X pins σ H s)(hn:H a=none)(hL:a≠X.env.locals)(h0:X.s₀.heap.objs.size<=a)(hc:∀x c,X.env.cells.lookup x=some c->c≠a)(hp:∀p∈X.pn++pins,p.1≠a)
  (new:wM X.prog X.w (upd H a o) s.heap a o):Inv X pins σ (upd H a o) s:=by
 have old:∀b ob,X.s₀.heap.get? b=some ob->b≠a:=fun b ob e=>zrH (zrB (zrz e) h0)
 refine⟨I.ok,I.os,I.bare,⟨fun b ob e n=>I.base.keep b ob e n,fun b ob e n=>I.base.slot b ob e n,fun b ob e n hx=>?_,fun b ob e hx=>I.base.there b ob e hx,fun b xs e=>?_,fun b ob u e=>?_,fun b ps e=>?_⟩,I.loc,I.cell,?_,fun x c e=>?_,fun p hm=>?_,I.hok.track hn new,I.len⟩
 ·rw[zB (old b ob e)];exact I.base.free b ob e n hx
 ·have q:=I.base.tups b xs e
  rw[zB (zy q hn)];exact q
 ·have q:=I.base.zax b ob u e
  rw[zB (zy q hn)];exact q
 ·obtain⟨mo,q⟩:=I.base.zbH b ps e
  exact⟨mo,by rw[zB (zy q hn)];exact q⟩
 ·rw[zB (Ne.symm hL)];exact I.free
 ·rw[zB (hc x c e)];exact I.Ut x c e
 ·obtain⟨z1,z2,z3⟩:=I.pin p hm
  exact⟨z1,by rw[zB (hp p hm)];exact z2,z3⟩
end
def clo:List (Str×NameKind)->List (Str×Addr)->List (Str×Addr)->List (Str×Addr)
 | [],_,acc=>acc
 | (n,k)::r,cells,acc=>clo r cells (if k==.free then (match cells.lookup n with | some c=>(n,c)::acc | none=>acc) else acc)
theorem W3 (cells:List (Str×Addr)):∀(names:List (Str×NameKind)) (acc:List (Str×Addr)),(∀y c,acc.lookup y=some c->cells.lookup y=some c)->∀y c,(clo names cells acc).lookup y=some c->cells.lookup y=some c
 | [],acc,h=>h
 | (n,k)::r,acc,h=>by
  refine W3 cells r _ fun y c e=>?_
  cases hk:k==NameKind.free with
  | false=>rw[hk] at e;exact h y c e
  | true =>
   rw[hk,if_pos rfl] at e
   cases hc:cells.lookup n with
   | none=>rw[hc] at e;exact h y c e
   | some a =>
    rw[hc] at e
    have e':(((n,a)::acc).lookup y)=some c:=e
    rw[zrS] at e'
    cases hy:y==n with
    | true =>
     rw[hy] at e'
     have z:y=n:=by simpa using hy
     subst z
     rw[hc];exact e'
    | false=>rw[hy] at e';exact h y c e'
theorem zbc (cells:List (Str×Addr)):∀(names:List (Str×NameKind)) (acc:List (Str×Addr)) (y:Str),(acc.lookup y).isSome=true->((clo names cells acc).lookup y).isSome=true
 | [],_,_,h=>h
 | (n,k)::r,acc,y,h=>by
  refine zbc cells r _ y ?_
  cases hk:k==NameKind.free with
  | false=>exact h
  | true =>
   rw[if_pos rfl]
   cases hc:cells.lookup n with
   | none=>exact h
   | some a =>
    show(((n,a)::acc).lookup y).isSome=true
    rw[zrS]
    cases hy:y==n with
    | true=>rfl
    | false=>exact h
theorem zbV (cells:List (Str×Addr)):∀(names:List (Str×NameKind)) (acc:List (Str×Addr)) (y:Str),(y,NameKind.free)∈names->(cells.lookup y).isSome=true->((clo names cells acc).lookup y).isSome=true
 | [],_,_,h,_=>by cases h
 | (n,k)::r,acc,y,h,hs=>by
  rcases List.mem_cons.mp h with e | h
  ·cases e
   refine zbc cells r _ n ?_
   show(((match cells.lookup n with | some c=>(n,c)::acc | none=>acc)).lookup n).isSome=true
   cases hc:cells.lookup n with
   | none=>rw[hc] at hs;cases hs
   | some a =>
    show(((n,a)::acc).lookup n).isSome=true
    rw[zrS]
    simp
  ·exact zbV cells r _ y h hs
theorem zfp {env:Env}:∀(names:List (Str×NameKind)) (acc:List (Str×Addr)),(∀y,(y,NameKind.free)∈names->(env.cells.lookup y).isSome=true) ->
  (forIn names acc fun(x:Str×NameKind) (cs:List (Str×Addr))=>if (x.2==NameKind.free)=true then do let c <-cellOf env x.1;pure (ForInStep.yield ((x.1,c)::cs)) else pure (ForInStep.yield cs):Sem (List (Str×Addr)))=pure (clo names env.cells acc)
 | [],acc,_=>rfl
 | (n,k)::r,acc,h=>by
  have ih:=fun acc'=>zfp (env:=env) r acc' fun y hy=>h y (zrD _ hy)
  rw[List.forIn_cons]
  cases hk:k==NameKind.free with
  | false =>
   show((pure (ForInStep.yield acc):Sem _)>>=_)=_
   rw[pure_bind]
   show(forIn r acc _:Sem _)=_
   rw[ih acc]
   show pure (clo r env.cells acc)=pure (clo r env.cells (if (k==NameKind.free)=true then (match env.cells.lookup n with | some c=>(n,c)::acc | none=>acc) else acc))
   rw[hk];rfl
  | true =>
   have hkf:k=NameKind.free:=by simpa using hk
   subst hkf
   have hs:=h n zrM
   cases hc:env.cells.lookup n with
   | none=>rw[hc] at hs;cases hs
   | some a =>
    have hcell:cellOf env n=pure a:=by unfold cellOf;rw[hc]
    show((cellOf env n>>=fun c=>(pure (ForInStep.yield ((n,c)::acc)):Sem _))>>=_)=_
    rw[hcell,pure_bind,pure_bind]
    show(forIn r ((n,a)::acc) _:Sem _)=_
    rw[ih]
    show pure (clo r env.cells ((n,a)::acc))=pure (clo r env.cells (match env.cells.lookup n with | some c=>(n,c)::acc | none=>acc))
    rw[hc]
theorem zey {sc:Scope}{env:Env}(h:∀y,(y,NameKind.free)∈sc.names->(env.cells.lookup y).isSome=true):closureFor sc env=pure (clo sc.names env.cells []):=by
 unfold closureFor
 have:=zfp (env:=env) sc.names [] h
 simpa using this
structure Yt (vX sc:Scope)(x:Str)(fv:List Str):Prop where
 kind:sc.kind=.function
 Vw:∀y∈sc.names,y.2≠.cell
 names:∀y∈sc.names,y.2=.local->sc.names.lookup y.1=some .local
 hx:sc.names.lookup x=some .local
 fr:∀y∈sc.names,y.2=.free->vX.names.lookup y.1=some .cell\/vX.names.lookup y.1=some .free
 fvs:∀y∈fv,sc.names.lookup y=some .free/\(vX.names.lookup y=some .cell\/vX.names.lookup y=some .free)
 nd:(x::fv).Nodup
abbrev Cx.blk (X:Cx)(sc:Scope)(cl:List (Str×Addr))(C:Addr)(N:List Str)(s:Shared)(H:Hp)(fp:List Addr):Cx :=
 {X with N:=N,s₀:=s,H₀:=H,env:=compEnvC sc cl C X.env,outer:=X.stack,ex:=fp,fn:=fun _=>false,pn:=[],xe:=fun _ _=>False }
abbrev lcN (X:Cx)(x:Str)(js:List Nat):List Str:=x::js.map fun j=>X.N.getD j ""
abbrev Yg (σ:St)(js:List Nat)(x:Option V):St:=x::js.map fun j=>σ.getD j none
theorem YL {env:Env}:∀{names:List (Str×NameKind)} {y:Str} {k:NameKind},(names.map fun(n,k)=>if (k==NameKind.free&&env.scope.kind==.function&&env.kindOf n==some .cell) then (n,NameKind.cell) else (n,k)).lookup y=some k->(k=.cell\/k=.free)->(∀z∈names,z.2≠.cell)->(y,NameKind.free)∈names
 | [],_,_,h,_,_=>by simp at h
 | (n,k')::r,y,k,h,hk,hn=>by
  by_cases hc:(k'==NameKind.free&&env.scope.kind==.function&&env.kindOf n==some .cell)=true
  ·have hk':k'=NameKind.free:=by
    rw[zrU,zrU] at hc
    simpa using hc.1.1
   subst hk'
   rw[zrR] at h
   cases hy:y==n with
   | true =>
    have z:y=n:=by simpa using hy
    subst z
    exact zrM
   | false =>
    have h':List.lookup y ((if (NameKind.free==NameKind.free&&env.scope.kind==.function&&env.kindOf n==some .cell)=true then (n,NameKind.cell) else (n,NameKind.free))::(r.map fun(n,k)=>if (k==NameKind.free&&env.scope.kind==.function&&env.kindOf n==some .cell) then (n,NameKind.cell) else (n,k)))=some k:=h
    rw[if_pos hc,zrS,hy] at h'
    exact zrD _ (YL h' hk fun z hz=>hn z (zrD _ hz))
  ·have h':List.lookup y ((if (k'==NameKind.free&&env.scope.kind==.function&&env.kindOf n==some .cell)=true then (n,NameKind.cell) else (n,k'))::(r.map fun(n,k)=>if (k==NameKind.free&&env.scope.kind==.function&&env.kindOf n==some .cell) then (n,NameKind.cell) else (n,k)))=some k:=h
   rw[if_neg hc,zrS] at h'
   cases hy:y==n with
   | true =>
    rw[hy] at h'
    cases h'
    have z:y=n:=by simpa using hy
    subst z
    rcases hk with e | e
    ·exact absurd e (hn _ zrM)
    ·subst e;exact zrM
   | false =>
    rw[hy] at h'
    exact zrD _ (YL h' hk fun z hz=>hn z (zrD _ hz))
theorem Jw {env:Env}:∀{names:List (Str×NameKind)} {y:Str},names.lookup y=some .free->(names.map fun(n,k)=>if (k==NameKind.free&&env.scope.kind==.function&&env.kindOf n==some .cell) then (n,NameKind.cell) else (n,k)).lookup y=some .cell\/(names.map fun(n,k)=>if (k==NameKind.free&&env.scope.kind==.function&&env.kindOf n==some .cell) then (n,NameKind.cell) else (n,k)).lookup y=some .free
 | [],_,h=>by simp at h
 | (n,k')::r,y,h=>by
  rw[zrS] at h
  rw[zrR]
  cases hy:y==n with
  | true =>
   rw[hy] at h
   cases h
   by_cases hc:(NameKind.free==NameKind.free&&env.scope.kind==.function&&env.kindOf n==some .cell)=true
   ·refine .inl ?_
    show List.lookup y ((if (NameKind.free==NameKind.free&&env.scope.kind==.function&&env.kindOf n==some .cell)=true then (n,NameKind.cell) else (n,NameKind.free))::_)=_
    rw[if_pos hc,zrS,hy]
   ·refine .inr ?_
    show List.lookup y ((if (NameKind.free==NameKind.free&&env.scope.kind==.function&&env.kindOf n==some .cell)=true then (n,NameKind.cell) else (n,NameKind.free))::_)=_
    rw[if_neg hc,zrS,hy]
  | false =>
   rw[hy] at h
   have ih:=Jw (env:=env) h
   by_cases hc:(k'==NameKind.free&&env.scope.kind==.function&&env.kindOf n==some .cell)=true
   ·show List.lookup y ((if (k'==NameKind.free&&env.scope.kind==.function&&env.kindOf n==some .cell)=true then (n,NameKind.cell) else (n,k'))::_)=_\/List.lookup y ((if (k'==NameKind.free&&env.scope.kind==.function&&env.kindOf n==some .cell)=true then (n,NameKind.cell) else (n,k'))::_)=_
    rw[if_pos hc,zrS,hy]
    exact ih
   ·show List.lookup y ((if (k'==NameKind.free&&env.scope.kind==.function&&env.kindOf n==some .cell)=true then (n,NameKind.cell) else (n,k'))::_)=_\/List.lookup y ((if (k'==NameKind.free&&env.scope.kind==.function&&env.kindOf n==some .cell)=true then (n,NameKind.cell) else (n,k'))::_)=_
    rw[if_neg hc,zrS,hy]
    exact ih
abbrev vP (its:List Value)(n:Nat):Obj:={ cls:=.type "list", data:=.seq its.toArray n }
abbrev Yh (ifs:List Expr)(env:Env):Sem Bool :=
 forIn ifs true fun c r=>if r=true then do let ok <-isTrue c env (eval c env);pure (ForInStep.yield ok) else pure (ForInStep.yield r)
def tLC (wi:TI)(js:List Nat)(tt:TT)(te:TE):TE:=fun σ H Q=>wi σ H fun J H1=>∃W:Nat->Nat->List V->Hp->Prop,(∃m,W 0 m [] H1)/\∀i m ys H,W i m ys H ->
 (J.stop i H/\∀p,H p=none->Q (.ref p) (upd H p (.lst ys))) \/
 (J.go i H/\ys.length<sizeLine/\∀x H',J.Qs i H x H'->tt (Yg σ js (some x)) H' fun b H2 =>
  if b=true then te (Yg σ js (some x)) H2 fun v H3=>∃m',m'<m/\W (i+1) m' (ys++[v]) H3 else ∃m',m'<m/\W (i+1) m' ys H2)
section
variable {X:Cx}{sc vX:Scope}{x:Str}{js:List Nat}{elt iter:Expr}{px pos:Pos}{ifs:List Expr}{wi:TI}{tt:TT}{te:TE}
theorem ziD {P:Program}{w:World}{A:Around}{R:Result->Shared->Prop}{st:Shared}{tg it acc}{cenv:Env}(Iv:Nat->Shared->Prop)
  (step:∀k st,Iv k st->wpAny (model P w) A (pyNext it) (fun got s1=>match got with
   | none=>R (.ok .next) s1
   | some v=>wpAny (model P w) A (letOwnedTupleGo tg it v) (fun _ s2=>wpAny (model P w) A (assign tg cenv v) (fun _ s3 =>
     wpAny (model P w) A (Yh ifs cenv) (fun ok s4=>if ok=true then wpAny (model P w) A (eval elt cenv) (fun y s5 =>
       wpAny (model P w) A (call (.builtin "list.append") [acc,y]) (fun _ s6=>∃k',k'<k/\Iv k' s6) (notedBy (model P w) A cenv fun e z=>R (.error e) z) s5) (notedBy (model P w) A cenv fun e z=>R (.error e) z) s4
      else ∃k',k'<k/\Iv k' s4) (notedBy (model P w) A cenv fun e z=>R (.error e) z) s3) (notedBy (model P w) A cenv fun e z=>R (.error e) z) s2) (notedBy (model P w) A cenv fun e z=>R (.error e) z) s1)
   (notedBy (model P w) A cenv fun e z=>R (.error e) z) st)(k0:Nat)(h0:Iv k0 st) :
  codeAny (model P w) A (.compLoop (.ListComp elt [⟨tg,iter,ifs,0⟩] sc pos) 0 it acc cenv) R st:=by
 refine codeAny_loop rfl Iv (fun k st hk=>?_) k0 h0
 show wpAny _ A ((compTurn (.ListComp elt [⟨tg,iter,ifs,0⟩] sc pos) 0 it acc cenv).onRaise (fun e=>do noteFrame e cenv;theTreesLotGoes e)) _ _ st
 refine wpAny_noted ?_
 rw[compTurn_list]
 refine wpAny_bind (wpAny_standAt (wpAny_bind (wpAny_mono (step k st hk) (fun got s1 h1=>?_) fun _ _ z=>z)))
 cases got with
 | none=>exact wpAny_pure h1
 | some v =>
  refine wpAny_bind (wpAny_mono h1 (fun _ s2 h2=>?_) fun _ _ z=>z)
  refine wpAny_bind (wpAny_mono h2 (fun _ s3 h3=>wpAny_bind (wpAny_mono h3 (fun ok s4 h4=>?_) fun _ _ z=>z)) fun _ _ z=>z)
  cases ok with
  | false=>exact wpAny_pure ⟨rfl,h4⟩
  | true=>exact wpAny_bind (wpAny_bind (wpAny_mono h4 (fun y s5 h5=>wpAny_bind (wpAny_mono h5 (fun _ s6 h6=>wpAny_pure (wpAny_pure ⟨rfl,h6⟩)) fun _ _ z=>z)) fun _ _ z=>z))
structure Own (X:Cx)(pins:List (Addr×Obj))(H:Hp)(a:Addr):Prop where
 free:H a=none
 loc:a≠X.env.locals
 new:X.s₀.heap.objs.size<=a
 cel:∀x c,X.env.cells.lookup x=some c->c≠a
 pin:∀p∈X.pn++pins,p.1≠a
 fs:a∉X.fs
end
structure zc6 (vX sc:Scope)(xs:List Str)(fv:List Str):Prop where
 kind:sc.kind=.function
 Vw:∀y∈sc.names,y.2≠.cell
 names:∀y∈sc.names,y.2=.local->sc.names.lookup y.1=some .local
 fr:∀y∈sc.names,y.2=.free->vX.names.lookup y.1=some .cell\/vX.names.lookup y.1=some .free
 fvs:∀y∈fv,sc.names.lookup y=some .free/\(vX.names.lookup y=some .cell\/vX.names.lookup y=some .free)
abbrev Um (X:Cx)(xs:List Str)(js:List Nat):List Str:=xs++js.map fun j=>X.N.getD j ""
abbrev lcT (σ:St)(js:List Nat)(os:List (Option V)):St:=os++js.map fun j=>σ.getD j none
def zkK (wi:TI)(xs:List Str)(js:List Nat)(g:TG)(tt:TT)(te:TE):TE:=fun σ H Q=>wi σ H fun J H1=>∃W:Nat->Nat->List V->Hp->Prop,(∃m,W 0 m [] H1)/\∀i m ys H,W i m ys H ->
 (J.stop i H/\∀p,H p=none->Q (.ref p) (upd H p (.lst ys))) \/
 (J.go i H/\ys.length<sizeLine/\∀x H',J.Qs i H x H'->∀o0:List (Option V),o0.length=xs.length->g x (lcT σ js o0) H' fun σ2 H1=>∃o1,σ2=lcT σ js o1/\o1.length=xs.length/\tt σ2 H1 fun b H2 =>
  if b=true then te σ2 H2 fun v H3=>∃m',m'<m/\W (i+1) m' (ys++[v]) H3 else ∃m',m'<m/\W (i+1) m' ys H2)
section
variable {X:Cx}{sc vX:Scope}{xs:List Str}{js:List Nat}
theorem ziE {pins:List (Addr×Obj)}{σ:St}{H:Hp}{s:Shared}{fp:List Addr}{C:Addr}(I:Inv X pins σ H s)(Xi:X.env.scope=vX)(L:zc6 vX sc xs (js.map fun j=>X.N.getD j ""))
  (f2:∀b∈fp,zay X pins H b)(lt:∀b∈fp,b<s.heap.objs.size)(hC:s.heap.objs.size<=C):(X.blk sc (clo sc.names X.env.cells []) C (Um X xs js) s H fp).Ok where
 mod:=I.ok.mod
 kind:=L.kind
 glob:=I.ok.glob
 blt:=I.ok.blt
 above:=hC
 inj:=fun y z c h1 h2=>I.ok.inj y z c (W3 _ _ [] (fun _ _ e=>by simp at e) y c h1) (W3 _ _ [] (fun _ _ e=>by simp at e) z c h2)
 has:=fun y hy=>by
  have hy':(relabel sc X.env).names.lookup y=some .cell\/(relabel sc X.env).names.lookup y=some .free:=hy
  have hm:(y,NameKind.free)∈sc.names:=by
   rcases hy' with e | e
   ·exact YL e (.inl rfl) L.Vw
   ·exact YL e (.inr rfl) L.Vw
  have ho:X.env.kindOf y=some .cell\/X.env.kindOf y=some .free:=by
   show X.env.scope.names.lookup y=_\/X.env.scope.names.lookup y=_
   rw[Xi]
   exact L.fr _ hm rfl
  obtain⟨c,e⟩:=I.ok.has y ho
  exact Option.isSome_iff_exists.mp (zbV _ _ [] y hm (by rw[e];rfl))
 cab:=fun y c h=>by cases h
 hd:=I.ok.hd
 frames:=I.ok.frames
 stk:=.inl rfl
 exf:=fun b hb=>⟨zrH (zrB (lt b hb) hC),fun y c e=>(f2 b hb).2.2.2.2.1 y c (W3 _ _ [] (fun _ _ e=>by simp at e) y c e)⟩
 bs:=I.bs
 bsz:=zrO I.ok.bsz I.sz
 zfZ:=fun b o e hb=>by
  rcases (f2 b hb).2.2.2.1 with z | z
  ·exact I.ok.zfZ b o e z
  ·exact absurd (zrB (zrz (I.ok.bs b o e).1) z) (Nat.lt_irrefl _)
 zf0:=fun b hb hm=>by
  rcases List.mem_cons.mp (I.zbJ b hm) with z | z
  ·exact(f2 b hb).2.1 z
  ·exact(f2 b hb).2.2.1 z
 N5:=I.stack
 frf:=I.zfc
end
section
variable {X:Cx}{sc vX:Scope}{xs:List Str}{js:List Nat}{tg:Expr}{g:TG}{elt iter:Expr}{px pos:Pos}{ifs:List Expr}{wi:TI}{tt:TT}{te:TE}
theorem zg6 {cl:List (Str×Addr)}{C D:Addr}{s₂:Shared}{H₂:Hp}{fp:List Addr}{pl:List (Addr×Obj)}{σ0:St}{H:Hp}{s:Shared}{u:Value}{v:V}{its:List Value}{n:Nat}{o0:List (Option V)}{E:Value->Shared->Prop}
  {Ny:V->Hp->Prop}{Nn:Hp->Prop}
  (hg:PG (X.blk sc cl C (Um X xs js) s₂ H₂ fp) tg g)
  (I:Inv (X.blk sc cl C (Um X xs js) s₂ H₂ fp) ((D,vP its n)::pl) (lcT σ0 js o0) H s)(ru:RelV v u)
  (ht:∀(pins:List (Addr×Obj)) (s':Shared) (σ':St) (H':Hp) (Q:Bool->Hp->Prop),Inv (X.blk sc cl C (Um X xs js) s₂ H₂ fp) pins σ' H' s'->tt σ' H' Q ->
   wpAny (model X.prog X.w) X.A (Yh ifs (compEnvC sc cl C X.env)) (TP (X.blk sc cl C (Um X xs js) s₂ H₂ fp) pins σ' Q) (fun _ _=>False) s')
  (he:PE (X.blk sc cl C (Um X xs js) s₂ H₂ fp) elt te)
  (hlen:its.length<sizeLine)(hD0:s₂.heap.objs.size<=D)(hDC:D≠C)(hDc:∀y c,cl.lookup y=some c->c≠D)(hDp:∀p∈pl,p.1≠D)
  (h:g v (lcT σ0 js o0) H fun σ2 H1=>∃o1,σ2=lcT σ0 js o1/\o1.length=xs.length/\tt σ2 H1 fun b H2=>if b=true then te σ2 H2 Ny else Nn H2) :
  wpAny (model X.prog X.w) X.A (assign tg (compEnvC sc cl C X.env) u) (fun _ s2 =>
   wpAny (model X.prog X.w) X.A (Yh ifs (compEnvC sc cl C X.env)) (fun ok s3 =>
    if ok=true then wpAny (model X.prog X.w) X.A (eval elt (compEnvC sc cl C X.env)) (fun y s4 =>
     wpAny (model X.prog X.w) X.A (call (.builtin "list.append") [.ref D,y]) (fun _ s5=>∃z y' H5 o1,o1.length=xs.length/\Ny z H5/\RelV z y'/\Inv (X.blk sc cl C (Um X xs js) s₂ H₂ fp) ((D,vP (its++[y']) (n+1))::pl) (lcT σ0 js o1) H5 s5) E s4) E s3
    else ∃H5 o1,o1.length=xs.length/\Nn H5/\Inv (X.blk sc cl C (Um X xs js) s₂ H₂ fp) ((D,vP its n)::pl) (lcT σ0 js o1) H5 s3) E s2) E s:=by
 refine wpAny_mono (hg _ s _ H v u _ I ru h) (fun _ s2 ⟨σ6,H6,I6,o1,e1,l1,h6⟩=>?_) fun _ _ z=>False.elim z
 subst e1
 refine wpAny_mono (ht _ s2 _ _ _ I6 h6) (fun ok s3 ⟨H7,I7,q7⟩=>?_) fun _ _ z=>False.elim z
 cases ok with
 | false =>
  rw[if_neg zrw] at q7 ⊢
  exact⟨H7,o1,l1,q7,I7⟩
 | true =>
  rw[if_pos rfl] at q7 ⊢
  refine wpAny_mono (he _ s3 _ H7 _ I7 q7) (fun y s4 ⟨z,H8,I8,r8,q8⟩=>?_) fun _ _ z=>False.elim z
  obtain⟨p1,p2,p3,p4,p5⟩:=I8.pin (D,vP its n) (zrJ _ zrM)
  have p1':s4.heap.get? D=some { cls:=.type "list", data:=.seq its.toArray n }:=p1
  refine call_meets F.slot_list_append ⟨_,p1',rfl⟩ F.entry_list_append (F.args_list_append_2 _ _) (PySem.list_append D its.toArray n y (by rw[zrC];omega)) ⟨p1',?_⟩
  have q:=PySem.IsL.update p1' (fun a=>a.push y)
  have sz:((its.toArray.push y).size==its.toArray.size)=false:=by simp
  have e3:(s4.heap.update D (Obj.mapSeq fun a=>a.push y)).get? D=some (vP (its++[y]) (n+1)):=by
   have q':(s4.heap.update D (Obj.mapSeq fun a=>a.push y)).get? D=some { cls:=.type "list", data:=.seq (its.toArray.push y) (if ((its.toArray.push y).size==its.toArray.size)=true then n else n+1) }:=q
   rw[q',sz,if_neg zrw]
   simp
  have I9:Inv (X.blk sc cl C (Um X xs js) s₂ H₂ fp) pl (lcT σ0 js o1) H8 s4:=I8.YJ fun p hp=>I8.pin p (zrJ _ (zrD _ hp))
  have oth:∀b o,b≠D->s4.heap.get? b=some o->(s4.heap.update D (Obj.mapSeq fun a=>a.push y)).get? b=some o:=fun b o hb e=>(Heap.get?_update_other _ _ (Ne.symm hb)).trans e
  have I10:=I9.turned (t':=s4.toks) (h':=s4.heap.update D (Obj.mapSeq fun a=>a.push y)) (it:=D) oth p2 hDC (.inr hD0) hDc (fun p hp=>hDp p hp)
  refine⟨z,y,H8,o1,l1,q8,r8,I10.YJ fun p hp=>?_⟩
  rcases List.mem_cons.mp hp with e | e
  ·subst e
   exact⟨e3,p2,p3,p4,fun w hw=>by cases hw⟩
  ·exact I10.pin p (zrJ _ e)
theorem Jx {use:Option (Value->Sem Unit)}{QQ:Value->Shared->Prop}{Fin:List V->Hp->Prop}{pins:List (Addr×Obj)}{s:Shared}{σ:St}{H:Hp}(Xi:X.env.scope=vX)(L:zc6 vX sc xs (js.map fun j=>X.N.getD j "")){rd:Cx->Prop}(hc:∀sc cl C N s H fp,rd (X.blk sc cl C N s H fp))(hi:PIr rd X tg iter wi)(hg:∀(cl:List (Str×Addr)) (C:Addr) (s₂:Shared) (H₂:Hp) (fp:List Addr),PG (X.blk sc cl C (Um X xs js) s₂ H₂ fp) tg g)(hjs:∀j∈js,j<X.N.length)
  (ht:∀(cl:List (Str×Addr)) (C:Addr) (s₂:Shared) (H₂:Hp) (fp:List Addr) (pins:List (Addr×Obj)) (s':Shared) (σ':St) (H':Hp) (Q:Bool->Hp->Prop),Inv (X.blk sc cl C (Um X xs js) s₂ H₂ fp) pins σ' H' s'->tt σ' H' Q ->
   wpAny (model X.prog X.w) X.A (Yh ifs (compEnvC sc cl C X.env)) (TP (X.blk sc cl C (Um X xs js) s₂ H₂ fp) pins σ' Q) (fun _ _=>False) s')
  (he:∀(cl:List (Str×Addr)) (C:Addr) (s₂:Shared) (H₂:Hp) (fp:List Addr),PE (X.blk sc cl C (Um X xs js) s₂ H₂ fp) elt te)
  (hs:∀x,foldedSetIterable iter X.env x=pure x)(I:Inv X pins σ H s)
  (h:wi σ H fun J H1=>∃W:Nat->Nat->List V->Hp->Prop,(∃m,W 0 m [] H1)/\∀i m ys H,W i m ys H->(J.stop i H/\Fin ys H) \/
   (J.go i H/\ys.length<sizeLine/\∀x H',J.Qs i H x H'->∀o0:List (Option V),o0.length=xs.length->g x (lcT σ js o0) H' fun σ2 H1=>∃o1,σ2=lcT σ js o1/\o1.length=xs.length/\tt σ2 H1 fun b H2 =>
    if b=true then te σ2 H2 fun v H3=>∃m',m'<m/\W (i+1) m' (ys++[v]) H3 else ∃m',m'<m/\W (i+1) m' ys H2))
  (hfin:∀(D C:Addr) (s5:Shared) (H5:Hp) (ys:List V) (its:List Value) (k:Nat) (m5:Str->Option Value),Inv X pins σ H5 s5->Own X pins H5 D->Own X pins H5 C->D≠C->s5.heap.get? D=some (vP its k)->Vals ys its->ys.length<=sizeLine->s5.heap.Ns C m5->Fin ys H5 ->
   compPost (model X.prog X.w) X.A X.xe use QQ (.ref D) C (.ok .next) s5) :
  wpAny (model X.prog X.w) X.A (comprehension (.ListComp elt [⟨tg,iter,ifs,0⟩] sc pos) sc X.env (firstIterPos [⟨tg,iter,ifs,0⟩] pos) (newList []) false (eval iter X.env) use) QQ X.xe s:=by
 have hcl:closureFor sc X.env=pure (clo sc.names X.env.cells []):=zey fun y hy=>by
  have ho:X.env.kindOf y=some .cell\/X.env.kindOf y=some .free:=by
   show X.env.scope.names.lookup y=_\/X.env.scope.names.lookup y=_
   rw[Xi]
   exact L.fr _ hy rfl
  obtain⟨c,e⟩:=I.ok.has y ho
  rw[e];rfl
 refine wpAny_comprehension_free (use:=use) rfl hs hcl L.kind L.names (wQ (hi pins s σ H _ I h) fun v s1 h1=>wQ h1 fun itv s2 h2=>?_)
 obtain⟨it,fp,tn,J,H2,e,I2,T,st2,f2,W,⟨m0,w0⟩,turn⟩:=h2
 subst e
 refine wpAny_newObj_type (wpAny_newFunctionEnv L.Vw (by intro y hy;simp at hy) (fun h₁ hns₁ hsb₁=>?_) L.kind)
 dsimp only at hns₁ hsb₁ ⊢
 generalize hG:s2.heap.push { cls:=.type "list", dict:=none,data:=.seq ([]:List Value).toArray }=G at hns₁ hsb₁ ⊢
 have hGs:G.objs.size=s2.heap.objs.size+1:=by rw[<-hG,Heap.size_push]
 have hCle:s2.heap.objs.size<=G.objs.size:=by rw[hGs];exact Nat.le_succ _
 have hDC:s2.heap.objs.size≠G.objs.size:=by rw[hGs];exact zrH (Nat.lt_succ_self _)
 have old:∀b o,s2.heap.get? b=some o->h₁.get? b=some o:=fun b o e=>by
  have lt:=zrz e
  refine hsb₁.extBut b o (zrH (zrB lt hCle)) (zry _ ?_)
  rw[<-hG]
  exact zry _ e
 have hacc:h₁.get? s2.heap.objs.size=some (vP [] 0):=by
  refine hsb₁.extBut _ _ hDC (zry _ ?_)
  rw[<-hG]
  exact zrN _ rfl
 have lt:∀b∈fp,b<s2.heap.objs.size:=fun b hb=>by
  obtain⟨o,e,_⟩:=T.obj _ _ st2 b hb
  exact zrz e
 have clS:∀y c,(clo sc.names X.env.cells []).lookup y=some c->X.env.cells.lookup y=some c:=W3 _ _ [] (fun _ _ e=>by simp at e)
 have znS:∀y c,(clo sc.names X.env.cells []).lookup y=some c->c<s2.heap.objs.size:=fun y c e=>by
  obtain⟨v,o,q,_⟩:=I2.cell y c (clS y c e)
  exact zrz q
 have Bok:(X.blk sc (clo sc.names X.env.cells []) G.objs.size (Um X xs js) s2 H2 fp).Ok:=ziE I2 Xi L f2 lt hCle
 have fresh:∀a,s2.heap.objs.size<=a->H2 a=none:=fun a ha=>I2.hok.fresh ha
 have zkL:∀b∈frs X.stack,b<s2.heap.objs.size:=fun b hb=>by
  rcases List.mem_cons.mp (I2.zbJ b hb) with z | z
  ·rw[z];exact I2.lt
  ·refine Nat.lt_of_not_le fun q=>I2.zkm q z
 have B0:Inv (X.blk sc (clo sc.names X.env.cells []) G.objs.size (Um X xs js) s2 H2 fp) [(s2.heap.objs.size,vP [] 0)] (lcT σ js (List.replicate xs.length none)) H2 { s2 with heap:=h₁,toks:=s2.toks+([]:List (Str×Value)).length }:=by
  refine⟨Bok,rfl,I2.bare,Un.kept old,⟨_,hns₁,fun i y v e1 e2 e3=>?_⟩,fun y c e=>?_,fresh _ hCle,fun y c e=>I2.Ut y c (clS y c e),fun p hp=>?_,I2.hok.kept old,?_⟩
  ·by_cases hlt:i<xs.length
   ·exfalso
    have e2'':(List.replicate xs.length (none:Option V)++js.map fun j=>σ.getD j none)[i]?=some (some v):=e2
    rw[zrZ (by rw[List.length_replicate];exact hlt),List.getElem?_replicate,if_pos hlt] at e2''
    cases e2''
   ·have e1':(js.map fun j=>X.N.getD j "")[i-xs.length]?=some y:=by
     have z:(xs++js.map fun j=>X.N.getD j "")[i]?=some y:=e1
     rw[List.getElem?_append_right (by omega)] at z
     exact z
    have e2':(js.map fun j=>σ.getD j none)[i-xs.length]?=some (some v):=by
     have z:(List.replicate xs.length (none:Option V)++js.map fun j=>σ.getD j none)[i]?=some (some v):=e2
     rw[List.getElem?_append_right (by rw[List.length_replicate];omega),List.length_replicate] at z
     exact z
    have e1s:=e1'
    rw[zru] at e1' e2'
    cases hj:js[i-xs.length]? with
    | none=>rw[hj] at e1';cases e1'
    | some j =>
     rw[hj] at e1' e2'
     have e4:X.N.getD j ""=y:=zrX e1'
     have e5:σ.getD j none=some v:=zrX e2'
     have hjl:=hjs j (zrx hj)
     have e6:X.N[j]?=some y:=by
      rw[zrF,zrt hjl] at e4
      rw[zrt hjl]
      exact congrArg some e4
     have e7:σ[j]?=some (some v):=by
      rw[zrF] at e5
      cases hq:σ[j]? with
      | none=>rw[hq] at e5;cases e5
      | some w=>rw[hq] at e5;exact congrArg some e5
     obtain⟨hm0,hk⟩:=L.fvs y (zrx e1s)
     have hm:(y,NameKind.free)∈sc.names:=PySem.mem_of_lookup hm0
     have hk':X.env.kindOf y=some .cell\/X.env.kindOf y=some .free:=by
      show X.env.scope.names.lookup y=_\/X.env.scope.names.lookup y=_
      rw[Xi];exact hk
     have hv:Vis X.env.scope y:=by rcases hk' with z | z;exact .inr (.inl z);exact .inr (.inr z)
     obtain⟨m,hn,hl⟩:=I2.loc
     obtain⟨u,r,l⟩:=hl j y v e6 e7 hv
     refine⟨u,r,.inr ?_⟩
     rcases l with ⟨z,_⟩ | ⟨_,c,hc1,hc2⟩
     ·rw[z] at hk';rcases hk' with q | q<;>cases q
     ·have hs2:((clo sc.names X.env.cells []).lookup y).isSome=true:=zbV _ _ [] y hm (by rw[hc1];rfl)
      obtain⟨c',hc'⟩:=Option.isSome_iff_exists.mp hs2
      have hcc:c'=c:=by have:=clS y c' hc';rw[hc1] at this;exact(zrX this).symm
      subst hcc
      obtain⟨o,ho,hd⟩:=hc2
      exact⟨Jw hm0,c',hc',o,old _ o ho,hd⟩
  ·obtain⟨v,o,q,d⟩:=I2.cell y c (clS y c e)
   exact⟨v,o,old _ o q,d⟩
  ·have e:p=(s2.heap.objs.size,vP [] 0):=by simpa using hp
   subst e
   exact⟨hacc,fresh _ (zrI _),hDC,fun z=>Nat.lt_irrefl _ (zkL _ z),fun w hw=>by cases hw⟩
  ·show _=(Um X xs js).length
   simp
 have stat:∀{H':Hp} {pl:List (Addr×Obj)},(∀b∈fp,H' b=none)->(∀p∈pl,p.1=s2.heap.objs.size)->∀b∈fp,zay (X.blk sc (clo sc.names X.env.cells []) G.objs.size (Um X xs js) s2 H2 fp) pl H' b:=fun hn hp b hb =>
  ⟨hn b hb,(Bok.exf b hb).1,Bok.zf0 b hb,.inl hb,(Bok.exf b hb).2,fun p hm=>by
   rw[hp p (by simpa using hm)]
   exact Ne.symm (zrH (lt b hb))⟩
 have loop:∀s3:Shared,s3={ s2 with heap:=h₁,toks:=s2.toks+([]:List (Str×Value)).length } ->
   codeAny (model X.prog X.w) X.A (.compLoop (.ListComp elt [⟨tg,iter,ifs,0⟩] sc pos) 0 (.ref it) (.ref s2.heap.objs.size) (compEnvC sc (clo sc.names X.env.cells []) G.objs.size X.env))
    (compPost (model X.prog X.w) X.A X.xe use QQ (.ref s2.heap.objs.size) G.objs.size) s3:=by
  rintro s3 rfl
  refine ziD (fun n s'=>∃i ys its k o0 H',o0.length=xs.length/\Inv (X.blk sc (clo sc.names X.env.cells []) G.objs.size (Um X xs js) s2 H2 fp) [(s2.heap.objs.size,vP its k)] (lcT σ js o0) H' s'/\tn i s'.heap/\(∀b∈fp,H' b=none)/\Vals ys its/\ys.length<=sizeLine/\W i n ys H') ?_ m0
   ⟨0,[],[],0,List.replicate xs.length none,H2,List.length_replicate,B0,T.keep _ _ _ st2 fun b _ o e=>old b o e,fun b hb=>(f2 b hb).1,.nil,zrP _,w0⟩
  rintro n s4 ⟨i,ys,its,k,o0,H4,lo0,I4,st4,fr4,vs4,z4,w4⟩
  have one:∀p∈[(s2.heap.objs.size,vP its k)],p.1=s2.heap.objs.size:=fun p hp=>by
   have e:p=(s2.heap.objs.size,vP its k):=by simpa using hp
   rw[e]
  rcases turn i n ys H4 w4 with ⟨stop,qn⟩ | ⟨go,zl,step⟩
  ·refine wQ (T.done (X.blk sc (clo sc.names X.env.cells []) G.objs.size (Um X xs js) s2 H2 fp) rfl rfl rfl (hc _ _ _ _ _ _ _) i _ s4 _ H4 _ I4 (stat fr4 one) st4 stop) fun r s5 ⟨hr,I5⟩=>?_
   subst hr
   obtain⟨m5,hn5,_⟩:=I5.loc
   obtain⟨p1,p2,p3,p4,p5⟩:=I5.pin (s2.heap.objs.size,vP its k) (by simp)
   have ch:∀b∈fp,(b∈X.ex\/X.s₀.heap.objs.size<=b)/\b≠X.env.locals/\(∀x c,X.env.cells.lookup x=some c->c≠b)/\∀p∈X.pn++pins,p.1≠b:=fun b hb =>
    ⟨(f2 b hb).2.2.2.1,(f2 b hb).2.1,(f2 b hb).2.2.2.2.1,(f2 b hb).2.2.2.2.2⟩
   have J1:Inv X pins σ H4 s5:=I2.call' I5.os I5.base I5.hok I5.bare ch
   have ltp:∀p∈X.pn++pins,p.1<s2.heap.objs.size:=fun p hp=>zrz (I2.pin p hp).1
   have ltc:∀y c,X.env.cells.lookup y=some c->c<s2.heap.objs.size:=fun y c e=>by
    obtain⟨v,o,q,_⟩:=I2.cell y c e
    exact zrz q
   have s0:X.s₀.heap.objs.size<=s2.heap.objs.size:=I2.sz
   have own:∀a,s2.heap.objs.size<=a->H4 a=none->Own X pins H4 a:=fun a ha hn=>⟨hn,Ne.symm (zrH (zrB I2.lt ha)),zrO s0 ha,fun y c e=>zrH (zrB (ltc y c e) ha),
    fun p hp=>zrH (zrB (ltp p hp) ha),I2.zkm ha⟩
   exact hfin _ _ s5 H4 ys its k m5 J1 (own _ (zrI _) p2) (own _ hCle I5.free) hDC p1 vs4 z4 hn5 qn
  ·refine wQ (T.item (X.blk sc (clo sc.names X.env.cells []) G.objs.size (Um X xs js) s2 H2 fp) rfl rfl rfl (hc _ _ _ _ _ _ _) i _ s4 _ H4 _ I4 (stat fr4 one) st4 go) fun r s5 ⟨u,hr,h5⟩=>?_
   subst hr
   refine wpAny_mono h5 (fun _ s5' ⟨v,H6,I6,r6,y6,st6,fr6⟩=>?_) fun _ _ z=>z
   have I7:=I6.pinned (stat fr6 one) (T.obj _ _ st6)
   have znV:∀p∈RG fp s5'.heap,p.1≠s2.heap.objs.size:=fun p hp=>zrH (lt _ (za4 hp).1)
   have zpR:=vs4.length
   have back:∀{its':List Value} {k':Nat} {H7:Hp} {s7:Shared} {ys':List V} {m':Nat} {o1:List (Option V)},o1.length=xs.length->Inv (X.blk sc (clo sc.names X.env.cells []) G.objs.size (Um X xs js) s2 H2 fp) ((s2.heap.objs.size,vP its' k')::RG fp s5'.heap) (lcT σ js o1) H7 s7 ->
     Vals ys' its'->ys'.length<=sizeLine->m'<n->W (i+1) m' ys' H7->∃m,m<n/\∃i ys its k o0 H',o0.length=xs.length/\Inv (X.blk sc (clo sc.names X.env.cells []) G.objs.size (Um X xs js) s2 H2 fp) [(s2.heap.objs.size,vP its k)] (lcT σ js o0) H' s7/\tn i s7.heap/\(∀b∈fp,H' b=none)/\Vals ys its/\ys.length<=sizeLine/\W i m ys H':=by
    intro its' k' H7 s7 ys' m' o1 l1 J vs' z' hm w'
    refine⟨m',hm,i+1,ys',its',k',o1,H7,l1,J.YJ fun p hp=>J.pin p (zrJ _ (by simp at hp;simp[hp])),?_,?_,vs',z',w'⟩
    ·exact T.keep _ _ _ st6 fun b hb o e=>(J.pin (b,o) (zrJ _ (zrD _ (Vu hb e)))).1
    ·intro b hb
     obtain⟨o,e,_⟩:=T.obj _ _ st6 b hb
     exact(J.pin (b,o) (zrJ _ (zrD _ (Vu hb e)))).2.1
   refine wpAny_mono (zg6 (X:=X) (sc:=sc) (xs:=xs) (js:=js) (tg:=tg) (g:=g) (elt:=elt) (ifs:=ifs) (tt:=tt) (te:=te) (D:=s2.heap.objs.size) (its:=its) (n:=k) (pl:=RG fp s5'.heap)
    (hg _ _ _ _ _) I7 r6 (ht _ _ _ _ _) (he _ _ _ _ _) (by omega) (zrI _) hDC (fun y c e=>zrH (znS y c e)) znV (step v H6 y6 o0 lo0)) (fun _ s6 h6=>?_) fun _ _ z=>z
   refine wpAny_mono h6 (fun ok s7 h7=>?_) fun _ _ z=>z
   cases ok with
   | false =>
    rw[if_neg zrw] at h7 ⊢
    obtain⟨H7,o1,l1,⟨m',hm,w'⟩,J⟩:=h7
    exact back l1 J vs4 z4 hm w'
   | true =>
    rw[if_pos rfl] at h7 ⊢
    refine wpAny_mono h7 (fun y s8 h8=>?_) fun _ _ z=>z
    refine wpAny_mono h8 (fun _ s9 h9=>?_) fun _ _ z=>z
    obtain⟨z,y',H9,o1,l1,⟨m',hm,w'⟩,rz,J⟩:=h9
    refine back l1 J (vs4.append (.cons rz .nil)) ?_ hm w'
    rw[zrA,zr0]
    omega
 exact codeAny_compStart_list (loop _ rfl) (T.self _ 0 _ _ _ (T.keep _ _ _ st2 fun b _ o e=>old b o e) (loop _ rfl))
end
section
variable {X:Cx}{sc vX:Scope}{x:Str}{js:List Nat}{elt iter:Expr}{px pos:Pos}{ifs:List Expr}{wi:TI}{tt:TT}{te:TE}
theorem zfq {use:Option (Value->Sem Unit)}{QQ:Value->Shared->Prop}{Fin:List V->Hp->Prop}{pins:List (Addr×Obj)}{s:Shared}{σ:St}{H:Hp}(Xi:X.env.scope=vX)(L:Yt vX sc x (js.map fun j=>X.N.getD j "")){rd:Cx->Prop}(hc:∀sc cl C N s H fp,rd (X.blk sc cl C N s H fp))(hi:PIr rd X (.Name x px) iter wi)(hjs:∀j∈js,j<X.N.length)
  (ht:∀(cl:List (Str×Addr)) (C:Addr) (s₂:Shared) (H₂:Hp) (fp:List Addr) (pins:List (Addr×Obj)) (s':Shared) (σ':St) (H':Hp) (Q:Bool->Hp->Prop),Inv (X.blk sc cl C (lcN X x js) s₂ H₂ fp) pins σ' H' s'->tt σ' H' Q ->
   wpAny (model X.prog X.w) X.A (Yh ifs (compEnvC sc cl C X.env)) (TP (X.blk sc cl C (lcN X x js) s₂ H₂ fp) pins σ' Q) (fun _ _=>False) s')
  (he:∀(cl:List (Str×Addr)) (C:Addr) (s₂:Shared) (H₂:Hp) (fp:List Addr),PE (X.blk sc cl C (lcN X x js) s₂ H₂ fp) elt te)
  (hs:∀x,foldedSetIterable iter X.env x=pure x)(I:Inv X pins σ H s)
  (h:wi σ H fun J H1=>∃W:Nat->Nat->List V->Hp->Prop,(∃m,W 0 m [] H1)/\∀i m ys H,W i m ys H->(J.stop i H/\Fin ys H) \/
   (J.go i H/\ys.length<sizeLine/\∀x H',J.Qs i H x H'->tt (Yg σ js (some x)) H' fun b H2 =>
    if b=true then te (Yg σ js (some x)) H2 fun v H3=>∃m',m'<m/\W (i+1) m' (ys++[v]) H3 else ∃m',m'<m/\W (i+1) m' ys H2))
  (hfin:∀(D C:Addr) (s5:Shared) (H5:Hp) (ys:List V) (its:List Value) (k:Nat) (m5:Str->Option Value),Inv X pins σ H5 s5->Own X pins H5 D->Own X pins H5 C->D≠C->s5.heap.get? D=some (vP its k)->Vals ys its->ys.length<=sizeLine->s5.heap.Ns C m5->Fin ys H5 ->
   compPost (model X.prog X.w) X.A X.xe use QQ (.ref D) C (.ok .next) s5) :
  wpAny (model X.prog X.w) X.A (comprehension (.ListComp elt [⟨.Name x px,iter,ifs,0⟩] sc pos) sc X.env (firstIterPos [⟨.Name x px,iter,ifs,0⟩] pos) (newList []) false (eval iter X.env) use) QQ X.xe s:=by
 have e:(fun(J:It) (H1:Hp)=>∃W:Nat->Nat->List V->Hp->Prop,(∃m,W 0 m [] H1)/\∀i m ys H,W i m ys H->(J.stop i H/\Fin ys H) \/
   (J.go i H/\ys.length<sizeLine/\∀x H',J.Qs i H x H'->tt (Yg σ js (some x)) H' fun b H2 =>
    if b=true then te (Yg σ js (some x)) H2 fun v H3=>∃m',m'<m/\W (i+1) m' (ys++[v]) H3 else ∃m',m'<m/\W (i+1) m' ys H2)) =
   (fun(J:It) (H1:Hp)=>∃W:Nat->Nat->List V->Hp->Prop,(∃m,W 0 m [] H1)/\∀i m ys H,W i m ys H->(J.stop i H/\Fin ys H) \/
   (J.go i H/\ys.length<sizeLine/\∀y H',J.Qs i H y H'->∀o0:List (Option V),o0.length=[x].length->XQ 0 y (lcT σ js o0) H' fun σ2 H1=>∃o1,σ2=lcT σ js o1/\o1.length=[x].length/\tt σ2 H1 fun b H2 =>
    if b=true then te σ2 H2 fun v H3=>∃m',m'<m/\W (i+1) m' (ys++[v]) H3 else ∃m',m'<m/\W (i+1) m' ys H2)):=by
  funext J H1
  refine propext ⟨fun⟨W,w0,w1⟩=>⟨W,w0,fun i m ys H hw=>?_⟩,fun⟨W,w0,w1⟩=>⟨W,w0,fun i m ys H hw=>?_⟩⟩
  ·rcases w1 i m ys H hw with a | ⟨a,b,c⟩
   ·exact .inl a
   ·refine .inr ⟨a,b,fun y H' hy o0 ho=>?_⟩
    match o0,ho with
    | [o],_=>exact⟨[some y],rfl,rfl,c y H' hy⟩
  ·rcases w1 i m ys H hw with a | ⟨a,b,c⟩
   ·exact .inl a
   ·refine .inr ⟨a,b,fun y H' hy=>?_⟩
    obtain⟨o1,e1,e2,e3⟩:=c y H' hy [none] rfl
    exact e3
 rw[e] at h
 exact Jx (xs:=[x]) (g:=XQ 0) Xi ⟨L.kind,L.Vw,L.names,L.fr,L.fvs⟩ hc hi (fun cl C s₂ H₂ fp=>yU (X:=X.blk sc cl C (Um X [x] js) s₂ H₂ fp) L.nd rfl (.inl (lookup_relabel_local L.hx)) (.inr (lookup_relabel_local L.hx))) hjs ht he hs I h hfin
theorem ziF (Xi:X.env.scope=vX)(L:Yt vX sc x (js.map fun j=>X.N.getD j "")){rd:Cx->Prop}(hc:∀sc cl C N s H fp,rd (X.blk sc cl C N s H fp))(hi:PIr rd X (.Name x px) iter wi)(hjs:∀j∈js,j<X.N.length)
  (ht:∀(cl:List (Str×Addr)) (C:Addr) (s₂:Shared) (H₂:Hp) (fp:List Addr) (pins:List (Addr×Obj)) (s':Shared) (σ':St) (H':Hp) (Q:Bool->Hp->Prop),Inv (X.blk sc cl C (lcN X x js) s₂ H₂ fp) pins σ' H' s'->tt σ' H' Q ->
   wpAny (model X.prog X.w) X.A (Yh ifs (compEnvC sc cl C X.env)) (TP (X.blk sc cl C (lcN X x js) s₂ H₂ fp) pins σ' Q) (fun _ _=>False) s')
  (he:∀(cl:List (Str×Addr)) (C:Addr) (s₂:Shared) (H₂:Hp) (fp:List Addr),PE (X.blk sc cl C (lcN X x js) s₂ H₂ fp) elt te)
  (hs:∀x,foldedSetIterable iter X.env x=pure x:=by intro _;rfl) :
  PE X (.ListComp elt [⟨.Name x px,iter,ifs,0⟩] sc pos) (tLC wi js tt te):=by
 intro pins s σ H Q I h
 rw[eval_ListComp]
 refine zfq (use:=none) (Fin:=fun ys H=>∀p,H p=none->Q (.ref p) (upd H p (.lst ys))) Xi L hc hi hjs ht he hs I h fun D C s5 H5 ys its k m5 J oD oC hDC p1 vs z hn fin=>?_
 refine⟨m5,hn,fun h' hsb=>?_⟩
 have J2:Inv X pins σ H5 { s5 with heap:=h',toks:=s5.toks }:=J.turned (it:=C) (fun b o hb e=>hsb.extBut b o hb e) oC.free oC.loc (.inr oC.new) oC.cel oC.pin
 have p1':h'.get? D=some (vP its k):=hsb.extBut _ _ hDC p1
 have J3:Inv X pins σ (upd H5 D (.lst ys)) { s5 with heap:=h',toks:=s5.toks }:=J2.track oD.free oD.loc oD.new oD.cel oD.pin ⟨z,its,k,vs,p1'⟩
 exact⟨.ref D,_,J3,rfl,fin D oD.free⟩
theorem zkM (Xi:X.env.scope=vX)(L:Yt vX sc x (js.map fun j=>X.N.getD j ""))(hc:X.calm=true)(hi:PI X (.Name x px) iter wi)(hjs:∀j∈js,j<X.N.length)
  (ht:∀(cl:List (Str×Addr)) (C:Addr) (s₂:Shared) (H₂:Hp) (fp:List Addr) (pins:List (Addr×Obj)) (s':Shared) (σ':St) (H':Hp) (Q:Bool->Hp->Prop),Inv (X.blk sc cl C (lcN X x js) s₂ H₂ fp) pins σ' H' s'->tt σ' H' Q ->
   wpAny (model X.prog X.w) X.A (Yh ifs (compEnvC sc cl C X.env)) (TP (X.blk sc cl C (lcN X x js) s₂ H₂ fp) pins σ' Q) (fun _ _=>False) s')
  (he:∀(cl:List (Str×Addr)) (C:Addr) (s₂:Shared) (H₂:Hp) (fp:List Addr),PE (X.blk sc cl C (lcN X x js) s₂ H₂ fp) elt te)
  (hs:∀x,foldedSetIterable iter X.env x=pure x:=by intro _;rfl) :
  PE X (.ListComp elt [⟨.Name x px,iter,ifs,0⟩] sc pos) (tLC wi js tt te) :=
 ziF Xi L (rd:=Calm) (fun _ _ _ _ _ _ _=>hc) hi hjs ht he hs
def sLC (i:Nat)(wi:TI)(js:List Nat)(tt:TT)(te:TE):TS:=fun D σ H=>tLC wi js tt te σ H fun v H1=>D.nx (σ.set i (some v)) H1
theorem Uy {i:Nat}{y:Str}{py spos:Pos}(hN:X.N.Nodup)(hy:X.N[i]?=some y)(hl:Loc X.env.scope y)(hf:X.fn y=true\/X.env.scope.names.lookup y=some .local)
  (Xi:X.env.scope=vX)(L:Yt vX sc x (js.map fun j=>X.N.getD j ""))(hc:X.calm=true)(hi:PI X (.Name x px) iter wi)(hjs:∀j∈js,j<X.N.length)
  (ht:∀(cl:List (Str×Addr)) (C:Addr) (s₂:Shared) (H₂:Hp) (fp:List Addr) (pins:List (Addr×Obj)) (s':Shared) (σ':St) (H':Hp) (Q:Bool->Hp->Prop),Inv (X.blk sc cl C (lcN X x js) s₂ H₂ fp) pins σ' H' s'->tt σ' H' Q ->
   wpAny (model X.prog X.w) X.A (Yh ifs (compEnvC sc cl C X.env)) (TP (X.blk sc cl C (lcN X x js) s₂ H₂ fp) pins σ' Q) (fun _ _=>False) s')
  (he:∀(cl:List (Str×Addr)) (C:Addr) (s₂:Shared) (H₂:Hp) (fp:List Addr),PE (X.blk sc cl C (lcN X x js) s₂ H₂ fp) elt te)
  (hsw:swapsWith (.ListComp elt [⟨.Name x px,iter,ifs,0⟩] sc pos) (some (.Name y py)) spos.line X.env=pure true)(hs:∀x,foldedSetIterable iter X.env x=pure x:=by intro _;rfl) :
  PS X (.Assign [.Name y py] (.ListComp elt [⟨.Name x px,iter,ifs,0⟩] sc pos) spos) (sLC i wi js tt te):=by
 intro pins s σ H D I h
 rw[exec_Assign_Name_used _ _ _ _ hsw]
 refine wpAny_bind (wpAny_standAt (wpAny_bind ?_))
 show wpAny _ _ (do let _ <-comprehension (.ListComp elt [⟨.Name x px,iter,ifs,0⟩] sc pos) sc X.env _ (newList []) false (eval iter X.env) (some (assign (.Name y py) X.env))) _ _ s
 have pg:=yU (X:=X) (i:=i) (x:=y) (pos:=py) hN hy hl hf
 refine wpAny_bind (wpAny_mono (zfq (use:=some (assign (.Name y py) X.env)) (QQ:=fun _ z=>SP X pins D .next z) (Fin:=fun ys H=>∀p,H p=none->D.nx (σ.set i (some (.ref p))) (upd H p (.lst ys))) Xi L (rd:=Calm) (fun _ _ _ _ _ _ _=>hc) hi hjs ht he hs I h fun A C s5 H5 ys its k m5 J oD oC hDC p1 vs z hn fin=>?_) (fun _ z hq=>wpAny_pure (wpAny_pure hq)) fun _ _ e=>e)
 have J1:Inv X pins σ (upd H5 A (.lst ys)) s5:=J.track oD.free oD.loc oD.new oD.cel oD.pin ⟨z,its,k,vs,p1⟩
 obtain⟨oc,es,ep,hC,hd,hr⟩:=hn
 have Vw:∀v,oc.data≠.cell v:=fun v q=>by rw[hd] at q;cases q
 have hCA:C≠A:=Ne.symm hDC
 have fC:(upd H5 A (.lst ys)) C=none:=by rw[zB hCA];exact oC.free
 have J2:Inv X (pins++[(C,oc)]) σ (upd H5 A (.lst ys)) s5:=J1.YJ fun p hp=>(List.mem_append.mp hp).elim (fun q=>J1.pin p (zrJ _ q)) fun q=>by
  have e:p=(C,oc):=by simpa using q
  subst e
  exact⟨hC,fC,oC.loc,oC.fs,Vw⟩
 refine wpAny_mono (pg _ s5 σ _ (.ref A) (.ref A) (fun σ6 H6=>σ6=σ.set i (some (.ref A))/\H6=upd H5 A (.lst ys)) J2 rfl ⟨rfl,rfl⟩) (fun _ s6 ⟨σ6,H6,I6,e1,e2⟩=>?_) fun _ _ e=>e
 subst e1 e2
 obtain⟨c1,c2,_⟩:=I6.pin (C,oc) (zrJ _ (zrJ _ (by simp)))
 refine⟨m5,⟨oc,es,ep,c1,hd,hr⟩,fun h' hsb=>?_⟩
 have J3:Inv X pins (σ.set i (some (.ref A))) (upd H5 A (.lst ys)) s6:=I6.YJ fun p hp=>I6.pin p (zrJ _ (List.mem_append_left _ hp))
 have J4:Inv X pins (σ.set i (some (.ref A))) (upd H5 A (.lst ys)) { s6 with heap:=h',toks:=s6.toks }:=J3.turned (it:=C) (fun b o hb e=>hsb.extBut b o hb e) c2 oC.loc (.inr oC.new) oC.cel oC.pin
 exact⟨_,_,J4,fin A oD.free⟩
end
section
variable {X:Cx}
def Vx:TT:=fun _ H Q=>Q true H
theorem tK {sc vX:Scope}{x:Str}{js:List Nat}{elt iter:Expr}{px pos:Pos}{wi:TI}{te:TE}(Xi:X.env.scope=vX)(L:Yt vX sc x (js.map fun j=>X.N.getD j ""))(hc:X.calm=true)(hi:PI X (.Name x px) iter wi)(hjs:∀j∈js,j<X.N.length)
  (he:∀(cl:List (Str×Addr)) (C:Addr) (s₂:Shared) (H₂:Hp) (fp:List Addr),PE (X.blk sc cl C (lcN X x js) s₂ H₂ fp) elt te)
  (hs:∀x,foldedSetIterable iter X.env x=pure x:=by intro _;rfl) :
  PE X (.ListComp elt [⟨.Name x px,iter,[],0⟩] sc pos) (tLC wi js Vx te) :=
 zkM Xi L hc hi hjs (fun cl C s₂ H₂ fp pins s' σ' H' Q I h=>wpAny_pure ⟨H',I,h⟩) he hs
theorem ziG {K:Frag}{a:Addr}{xs:List V}{σ:St}{js:List Nat}{tt:TT}{te:TE}{H:Hp}{Qf:Addr->Hp->List V->Prop}(Pv:Nat->List V->Hp->Prop)(h0:Pv 0 [] H)(hz:xs.length<=sizeLine)
  (hl:∀i ys H,i<=xs.length->Pv i ys H->zX K H a xs/\ys.length<=i)
  (hs:∀i x ys H,xs[i]?=some x->Pv i ys H->tt (Yg σ js (some x)) H fun b H2=>if b=true then te (Yg σ js (some x)) H2 fun v H3=>Pv (i+1) (ys++[v]) H3 else Pv (i+1) ys H2)
  (mt:∀ σ H Q Q',(∀b H1,Q b H1->Q' b H1)->tt σ H Q->tt σ H Q')(me:∀ σ H Q Q',(∀v H1,Q v H1->Q' v H1)->te σ H Q->te σ H Q')
  (hd:∀ys H p,Pv xs.length ys H->H p=none->Qf p H ys) :
  ∃W:Nat->Nat->List V->Hp->Prop,(∃m,W 0 m [] H)/\∀i m ys H,W i m ys H ->
   ((Itl K a).stop i H/\∀p,H p=none->Qf p H ys) \/
   ((Itl K a).go i H/\ys.length<sizeLine/\∀x H',(Itl K a).Qs i H x H'->tt (Yg σ js (some x)) H' fun b H2 =>
    if b=true then te (Yg σ js (some x)) H2 fun v H3=>∃m',m'<m/\W (i+1) m' (ys++[v]) H3 else ∃m',m'<m/\W (i+1) m' ys H2):=by
 refine⟨fun i m ys H=>m=xs.length-i/\i<=xs.length/\Pv i ys H,⟨xs.length,by simp,zrP _,h0⟩,?_⟩
 rintro i m ys H ⟨rfl,hi,p⟩
 obtain⟨q,hy⟩:=hl i ys H hi p
 by_cases hlt:i<xs.length
 ·refine .inr ⟨⟨xs,xs[i],q,by simp[hlt]⟩,by omega,fun x H' y=>?_⟩
  obtain⟨e,y⟩:=y
  subst e
  refine mt _ _ _ _ (fun b H2 h2=>?_) (hs i x ys _ (y xs q) p)
  cases b with
  | true =>
   rw[if_pos rfl] at h2 ⊢
   exact me _ _ _ _ (fun v H3 h3=>⟨_,by omega,rfl,hlt,h3⟩) h2
  | false =>
   rw[if_neg zrw] at h2 ⊢
   exact⟨_,by omega,rfl,hlt,h2⟩
 ·have e:i=xs.length:=by omega
  subst e
  exact .inl ⟨⟨xs,q,zrI _⟩,fun pp hp=>hd ys H pp p hp⟩
theorem zg7 {K:Frag}{a:Addr}{xs:List V}{σ:St}{js:List Nat}{tt:TT}{te:TE}{H:Hp}{Qf:Addr->Hp->List V->Prop}(Pv:Nat->List V->Hp->Prop)(h0:Pv 0 [] H)(hz:xs.length<=sizeLine)
  (hl:∀i ys H,i<=xs.length->Pv i ys H->vp K H a xs/\ys.length<=i)
  (hs:∀i x ys H,xs[i]?=some x->Pv i ys H->tt (Yg σ js (some x)) H fun b H2=>if b=true then te (Yg σ js (some x)) H2 fun v H3=>Pv (i+1) (ys++[v]) H3 else Pv (i+1) ys H2)
  (mt:∀ σ H Q Q',(∀b H1,Q b H1->Q' b H1)->tt σ H Q->tt σ H Q')(me:∀ σ H Q Q',(∀v H1,Q v H1->Q' v H1)->te σ H Q->te σ H Q')
  (hd:∀ys H p,Pv xs.length ys H->H p=none->Qf p H ys) :
  ∃W:Nat->Nat->List V->Hp->Prop,(∃m,W 0 m [] H)/\∀i m ys H,W i m ys H ->
   ((Itt K a).stop i H/\∀p,H p=none->Qf p H ys) \/
   ((Itt K a).go i H/\ys.length<sizeLine/\∀x H',(Itt K a).Qs i H x H'->tt (Yg σ js (some x)) H' fun b H2 =>
    if b=true then te (Yg σ js (some x)) H2 fun v H3=>∃m',m'<m/\W (i+1) m' (ys++[v]) H3 else ∃m',m'<m/\W (i+1) m' ys H2):=by
 refine⟨fun i m ys H=>m=xs.length-i/\i<=xs.length/\Pv i ys H,⟨xs.length,by simp,zrP _,h0⟩,?_⟩
 rintro i m ys H ⟨rfl,hi,p⟩
 obtain⟨q,hy⟩:=hl i ys H hi p
 by_cases hlt:i<xs.length
 ·refine .inr ⟨⟨xs,xs[i],q,by simp[hlt]⟩,by omega,fun x H' y=>?_⟩
  obtain⟨e,y⟩:=y
  subst e
  refine mt _ _ _ _ (fun b H2 h2=>?_) (hs i x ys _ (y xs q) p)
  cases b with
  | true =>
   rw[if_pos rfl] at h2 ⊢
   exact me _ _ _ _ (fun v H3 h3=>⟨_,by omega,rfl,hlt,h3⟩) h2
  | false =>
   rw[if_neg zrw] at h2 ⊢
   exact⟨_,by omega,rfl,hlt,h2⟩
 ·have e:i=xs.length:=by omega
  subst e
  exact .inl ⟨⟨xs,q,zrI _⟩,fun pp hp=>hd ys H pp p hp⟩
theorem Jy {x:V}:∀{xs:List V} {us:List Value},Vals xs us->xs.all wD=true->∀{j:Nat},xs.findIdx? (fun y=>eqV y x)=some j ->
  ∃hj:j<us.length,eqU x us[j]=true/\∀m (hm:m<us.length),m<j->eqU x us[m]=false
 | _,_,.nil,_,j,h=>by simp at h
 | y::xs,u::us,.cons r t,f,j,h=>by
  rw[List.all_cons,zrU] at f
  rw[List.findIdx?_cons] at h
  by_cases hy:eqV y x=true
  ·rw[if_pos hy] at h
   cases h
   refine⟨by simp,?_,fun m hm hlt=>absurd hlt (Nat.not_lt_zero _)⟩
   show eqU x u=true
   rw[zbS r f.1];exact hy
  ·rw[if_neg hy] at h
   cases hq:xs.findIdx? (fun y=>eqV y x) with
   | none=>rw[hq] at h;cases h
   | some k =>
    rw[hq] at h
    have e:k+1=j:=zrX h
    subst e
    obtain⟨hk,h1,h2⟩:=Jy t f.2 hq
    refine⟨by rw[zrE];omega,h1,fun m hm hlt=>?_⟩
    cases m with
    | zero =>
     show eqU x u=false
     rw[zbS r f.1];exact Bool.eq_false_iff.mpr hy
    | succ m=>exact h2 m (by rw[zrE] at hm;omega) (by omega)
def zkN (K:Frag):V->List V->Hp->VK->Prop:=fun x vs H Q=>∃l xs y j,x=.ref l/\vs=[y]/\zX K H l xs/\wD y=true/\xs.all wD=true/\xs.findIdx? (fun z=>eqV z y)=some j/\Q (.int (j:Nat)) H
theorem Jz:MtM X "list.index" (zkN X.K):=by
 intro pins s σ H x vs v us Q I rx rv h
 obtain⟨l,xs,y,j,rfl,rfl,hq,fy,fs,hj,q⟩:=h
 cases rx
 obtain⟨u,rfl,ru⟩:=rv.one
 obtain⟨its,r,⟨o,n,e,hc,hd,hdat⟩,hz⟩:=I.list hq
 obtain⟨cls,dd,dt,sl⟩:=o
 have hc':cls=.type "list" := hc
 have hdat':dt=.seq its.toArray n:=hdat
 subst hc' hdat'
 obtain⟨h1,h2,h3⟩:=Jy r fs hj
 have hl:=r.length
 have hn:=Ux
 refine call_meets F.slot_list_index ⟨_,e,rfl⟩ F.entry_list_index (F.args_list_index_2 _ _) (SeqAt.list_indexAt l its.toArray n dd sl u (eqU y) j (by simpa using h1) (by omega) (by simpa using h2) (fun m hm hlt=>by simpa using h3 m (by simpa using hm) hlt)) ⟨e,fun w hw=>W2 ru fy r fs w (by simpa using hw),?_⟩
 exact⟨.int (j:Nat),H,I.tok _,⟨_,rfl⟩,q⟩
def ziH:V->List V->Hp->VK->Prop:=fun x vs H Q=>∃l xs i y,x=.ref l/\vs=[.int i,y]/\H l=some (.lst xs)/\0<=i/\i<=(xs.length:Int)/\xs.length<sizeLine/\Q .non (upd H l (.lst (xs.take i.toNat++y::xs.drop i.toNat)))
theorem zez {A:Around}{s:Shared}{P:Program}{w:World}{E:Value->Shared->Prop}{Q:Value->Shared->Prop}{l:Addr}{its:List Value}{n:Nat}{i:Int}{t:Tok}{u:Value}(e:s.heap.get? l=some { cls:=.type "list", data:=.seq its.toArray n })(h0:0<=i)(h1:i<=(its.length:Int))(hz:its.length<=sizeLine)
  (h:∀f:Array Value->Array Value,f its.toArray=(its.take i.toNat++u::its.drop i.toNat).toArray->Q .none { s with heap:=s.heap.update l (Obj.mapSeq f),toks:=s.toks }):wpAny (model P w) A (call (.builtin "list.insert") [.ref l,.int i t,u]) Q E s:=by
 have hn:=Ux
 have fit:¬(!Builtin.List.listFitsIndex i)=true:=by
  rw[fitsIndex_both (k:=i) (Int.le_trans (by decide) h0) (by omega)]
  exact zrw
 have hs3:its.toArray.size<=sizeLine:=by rw[zrC];exact hz
 have M:=AutoSeq1.list_insert_list_int_val_1 l its.toArray n i t u fit hs3
 refine call_meets F.slot_list_insert ⟨_,e,rfl⟩ F.entry_list_insert (F.args_list_insert_3 _ _ _) M ⟨e,?_⟩
 refine h _ ?_
 have hk:(if i<0 then (i+(its.toArray.size:Int)).toNat else min i.toNat its.toArray.size)=i.toNat:=by
  rw[if_neg (by omega),zrC]
  omega
 show(its.toArray.extract 0 (if i<0 then (i+(its.toArray.size:Int)).toNat else min i.toNat its.toArray.size)).push u++its.toArray.extract (if i<0 then (i+(its.toArray.size:Int)).toNat else min i.toNat its.toArray.size)=_
 rw[hk]
 apply Array.toList_inj.mp
 simp[List.take_of_length_le]
theorem zgg:MtM X "list.insert" ziH:=by
 intro pins s σ H x vs v us Q I rx rv h
 obtain⟨l,xs,i,y,rfl,rfl,hH,h0,h1,hz,q⟩:=h
 cases rx
 obtain⟨u,w,rfl,⟨t,rfl⟩,rw'⟩:=rv.two
 obtain⟨z,its,n,r,hl,e⟩:=I.zgc hH
 refine zez e h0 (by rw[<-hl];exact h1) (by omega) fun f hf=>?_
 refine⟨.non,_,I.zg2 (its':=its.take i.toNat++w::its.drop i.toNat) hH e hf ((r.take i.toNat).append (.cons rw' (r.drop i.toNat))) ?_,rfl,q⟩
 rw[zrA,zrE,zrQ,List.length_drop]
 omega
def zg8 (K:Frag):V->List V->Hp->VK->Prop:=fun x vs H Q=>∃l b xs zs,x=.ref l/\vs=[.ref b]/\H l=some (.lst xs)/\vp K H b zs/\xs.length+zs.length<=sizeLine/\Q .non (upd H l (.lst (xs++zs)))
theorem Mh (l:Addr)(its:Array Value)(n:Nat)(b:Addr)(its2:Array Value)(n2:Nat)(dd:Option Addr)(sl:Array (Option Value))(h0:¬(!its.isEmpty&&Builtin.List.listTooLong (its.size+its2.size))=true)(h1:its.size<=sizeLine)(h2:its.size+its2.size<=sizeLine+1) :
  Meets (Builtin.«list.extend» ⟨[.ref l,.ref b],[]⟩) (fun _ R s=>s.heap.get? l=some { cls:=.type "list", data:=.seq its n }/\s.heap.get? b=some { cls:=.type "tuple", dict:=dd,data:=.seq its2 n2,slots:=sl } /\
   R (.ok (.ret Value.none)) { s with heap:=s.heap.update l (Obj.mapSeq fun x=>x++its2),toks:=s.toks }) :=
 .of_wp fun prog w A R s h=>by
  obtain⟨hp,g,d,tk,os⟩:=s
  obtain⟨hl,hb,h⟩:=h
  have g1:=AutoSeq1.idx_int
  have g2:=AutoSeq1.sub_tuple_tuple
  have g3:=AutoSeq1.sub_list_list
  have g4:=AutoSeq1.sub_tuple_list
  have g5:=AutoSeq1.sub_list_tuple
  have hz:(its++its2).size<=sizeLine+1:=by rw[Array.size_append];exact h2
  wp_walk using (wpAny_updateSeq hl rfl (hz:=h1) (_hz':=hz)),AutoSeq1.wpAny_loadPart' hl,AutoSeq1.wpAny_loadPart' hb
  exact⟨_,rfl,h⟩
theorem JB:MtM X "list.extend" (zg8 X.K):=by
 intro pins s σ H x vs v us Q I rx rv h
 obtain⟨l,b,xs,zs,rfl,rfl,hH,hB,hz,q⟩:=h
 cases rx
 obtain⟨u,rfl,ru⟩:=rv.one
 cases ru
 obtain⟨z,its,n,r,hl,e⟩:=I.zgc hH
 obtain⟨its2,r2,⟨o,e2,hc,n2,hd⟩,z2⟩:=I.tuple hB
 obtain⟨cls,dd,dt,sl⟩:=o
 have hc':cls=.type "tuple" := hc
 have hd':dt=.seq its2.toArray n2:=hd
 subst hc' hd'
 have hl2:=r2.length
 have hsz:its.toArray.size+its2.toArray.size<=sizeLine:=by rw[zrC,zrC];omega
 have zg3:¬(!its.toArray.isEmpty&&Builtin.List.listTooLong (its.toArray.size+its2.toArray.size))=true:=by
  rw[zc4 hsz,Bool.and_false]
  exact zrw
 refine call_meets F.slot_list_extend ⟨_,e,rfl⟩ F.entry_list_extend (F.args_list_extend_2 _ _)
  (Mh l its.toArray n b its2.toArray n2 dd sl zg3 (by rw[zrC];omega) (by omega)) ⟨e,e2,?_⟩
 refine⟨.non,_,I.zg2 (its':=its++its2) hH e (by simp) (r.append r2) ?_,rfl,q⟩
 rw[zrA]
 omega
theorem zaD (bs:List Bool):((List.range bs.length).all fun i=>(bs[i]?).getD true)=bs.all id:=by
 rw[zr8,zrW,zrW]
 constructor
 ·intro h b hb
  obtain⟨i,hi,e⟩:=zr9 hb
  have q:=h i (List.mem_range.mpr hi)
  rw[zrt hi,Option.getD_some,e] at q
  exact q
 ·intro h i hi
  have hi':=List.mem_range.mp hi
  rw[zrt hi',Option.getD_some]
  exact h _ (List.getElem_mem hi')
theorem Uz (hc:X.calm=true):YF X (.builtin "all") (fun xs H Q=>∃(p:Addr) (bs:List Bool),xs=[.ref p]/\zX X.K H p (bs.map V.bl)/\Q (.bl (bs.all id)) H):=by
 intro pins s σ H xs us Q I r h
 obtain⟨p,bs,rfl,hq,q⟩:=h
 obtain⟨u,rfl,rx⟩:=vals1 r
 cases rx
 obtain⟨its,r',pl,hz⟩:=I.list hq
 have hlen:bs.length=its.length:=by have:=r'.length;rw[zrs] at this;exact this
 have hlt:p<s.heap.objs.size:=by obtain⟨_,e,_⟩:=pl.isList;exact zrz e
 refine call_all_walk (wpAny_pyIter_list pl.isList ?_)
 refine⟨s.heap.objs.size,[s.heap.objs.size,p],[s.heap.objs.size],its.toArray.size,_,_,fun i=>(bs[i]?).getD true,rfl,Walks.list (A:=X.A.in1) (I.ok.hd hc) _ p (zrH hlt) its.toArray,
  ⟨⟨_,zrN _ rfl,rfl,rfl⟩,pl.isList.push _⟩,fun i v s' Q' E' hP hQ=>?_,fun h' tk hk=>?_⟩
 ·have hP':its[i]?=some v:=by simpa using hP
  have hi:i<bs.length:=by
   have:=(zrv.mp hP').1
   omega
  obtain⟨w,hw,rw'⟩:=r'.get (i:=i) (x:=.bl bs[i]) (by rw[zru,zrt hi];rfl)
  rw[hP'] at hw
  cases hw
  cases rw'
  simp only[zrt hi,Option.getD_some] at hQ
  exact wpAny_truthy_bool hQ
 ·have kp:∀b o,s.heap.get? b=some o->h'.get? b=some o:=fun b o e=>hk b o (fun hm=>by
   rw[List.mem_singleton.mp hm] at e
   exact Nat.lt_irrefl _ (zrz e)) (zry _ e)
  refine⟨.bl _,H,I.kept kp,rfl,?_⟩
  rw[zrC,<-hlen,zaD]
  exact q
theorem Lq:YF X (.builtin "isinstance") (fun xs H Q=>∃x T t b,xs=[x,.ty T]/\Qy X.K H x t/\PySem.W.kitOne X.K t (.type T)=some b/\Q (.bl b) H):=by
 intro pins s σ H xs us Q I r h
 obtain⟨x,T,t,b,rfl,ty,e,q⟩:=h
 obtain⟨u,w',rfl,rx,ry⟩:=vals2 r
 cases ry
 exact zf8 I rx ty e fun tk=>⟨.bl b,H,I.tok _,rfl,q⟩
end
def met (acc:List Str)(x:Str):List Str:=if acc.any (·==x) then acc else acc++[x]
def dd (xs:List Str):List Str:=xs.foldl met []
theorem zfr (xs:List Str)(x:Str):dd (xs++[x])=met (dd xs) x:=by
 unfold dd
 rw[List.foldl_append]
 rfl
theorem K9 (acc:List Str)(x k:Str):(met acc x).any (·==k)=(acc.any (·==k)||decide (k=x)):=by
 unfold met
 by_cases h:acc.any (·==x)=true
 ·rw[if_pos h]
  by_cases e:k=x
  ·subst e;rw[h];simp
  ·simp[e]
 ·rw[if_neg h,List.any_append]
  by_cases e:k=x
  ·subst e;simp
  ·have hb:(x==k)=false:=by simpa [beq_iff_eq] using (fun z:x=k=>e z.symm)
   simp[hb,e]
theorem XR (acc:List Str)(x:Str):(met acc x).length=if acc.any (·==x)=true then acc.length else acc.length+1:=by
 unfold met
 split<;>simp
theorem zl7 (xs:List Str):(dd xs).length<=xs.length:=by
 suffices h:∀acc:List Str,(xs.foldl met acc).length<=acc.length+xs.length by have:=h [];unfold dd;simpa using this
 induction xs with
 | nil=>intro acc;simp
 | cons x r ih =>
  intro acc
  rw[List.foldl_cons]
  have h1:=ih (met acc x)
  have h2:=XR acc x
  rw[zrE]
  split at h2<;>omega
theorem zg9 {xs:List Str}(h:xs.Nodup):(dd xs).length=xs.length:=by
 suffices g:∀acc:List Str,(∀x∈xs,acc.any (·==x)=false)->(xs.foldl met acc).length=acc.length+xs.length by have:=g [] (fun _ _=>rfl);unfold dd;simpa using this
 induction xs with
 | nil=>intro acc _;simp
 | cons x r ih =>
  intro acc ha
  obtain⟨hx,hr⟩:=List.nodup_cons.mp h
  rw[List.foldl_cons,ih hr (met acc x) (fun y hy=>?_),XR,ha x zrM]
  ·simp;omega
  ·rw[K9,ha y (zrD _ hy)]
   have:y≠x:=fun e=>hx (e ▸ hy)
   simp[this]
theorem zkO {xs:List Str}(h:¬xs.Nodup):(dd xs).length<xs.length:=by
 suffices g:∀acc:List Str,¬xs.Nodup->(xs.foldl met acc).length<acc.length+xs.length by have:=g [] h;unfold dd;simpa using this
 clear h
 have le:∀(ys acc:List Str),(ys.foldl met acc).length<=acc.length+ys.length:=fun ys=>by
  induction ys with
  | nil=>intro acc;simp
  | cons x r ih =>
   intro acc
   rw[List.foldl_cons]
   have h1:=ih (met acc x)
   have h2:=XR acc x
   rw[zrE]
   split at h2<;>omega
 have mem:∀(ys acc:List Str) (x:Str),x∈ys->acc.any (·==x)=true->(ys.foldl met acc).length<acc.length+ys.length:=fun ys=>by
  induction ys with
  | nil=>intro acc x hx _;cases hx
  | cons y r ih =>
   intro acc x hx ha
   rw[List.foldl_cons,zrE]
   rcases List.mem_cons.mp hx with e | hx
   ·subst e
    have h1:=le r (met acc x)
    have h2:=XR acc x
    rw[if_pos ha] at h2
    omega
   ·have h1:=ih (met acc y) x hx (by rw[K9,ha];rfl)
    have h2:=XR acc y
    split at h2<;>omega
 induction xs with
 | nil=>intro acc h;exact absurd List.nodup_nil h
 | cons x r ih =>
  intro acc h
  rw[List.foldl_cons,zrE]
  by_cases hx:x∈r
  ·have h1:=mem r (met acc x) x hx (by rw[K9];simp)
   have h2:=XR acc x
   split at h2<;>omega
  ·have h1:=ih (met acc x) (fun hr=>h (List.nodup_cons.mpr ⟨hx,hr⟩))
   have h2:=XR acc x
   split at h2<;>omega
abbrev JC (led:Bool):Obj:={ cls:=.type "set", dict:=none,data:=.set #[] 0 (.fresh 0 0 led) }
section
variable {P:Program}{w:World}{A:Around}{R:Result->Shared->Prop}{E:Value->Shared->Prop}{s:Shared}
theorem zha {I:Addr}{fp wr:List Addr}{G:Array GenState->Array GenState->Prop}{n:Nat}{Pv:Nat->Value->Prop}{St:Nat->Shared->Prop}(W:WalksS P w A.in1 I fp wr G n Pv St)(S:Addr)(hS:S∉fp)(xs:List Str)(hn:xs.length=n)
  (hv:∀i v,Pv i v->∃t,v=.str (xs.getD i "") t)(hb:n+1<scanBound) :
  ∀(k i:Nat) (z:Shared),n-i=k->i<=n->St i z->z.heap.SetOf (strKind P w) S (fun q=>(dd (xs.take i)).any (·==q)) (dd (xs.take i)).length ->
   (∀z',Moved (S::wr) G z z'->z'.heap.SetOf (strKind P w) S (fun q=>(dd xs).any (·==q)) (dd xs).length->R (.ok (.ret .none)) z') ->
   codeAny (model P w) A (.builtin "set.update.loop" ⟨[.ref S,.ref I],[]⟩) R z:=by
 have zl8:S∉wr:=fun h=>hS (W.sub _ h)
 have more:∀b∈wr,b∈S::wr:=fun b h=>zrD _ h
 intro k
 induction k with
 | zero =>
  intro i z hk hi st ziI fin
  have ei:i=n:=by omega
  subst ei
  refine codeAny_builtin PyProof.Rows.F.entry_set_update_loop ?_
  rw[Around.under_plainId PyProof.Rows.F.plain_set_update_loop _]
  show wpAny _ A.in1 (pyNext (.ref I)>>=_) _ _ z
  refine wpAny_bind (W.done z _ _ st fun z' mv=>?_)
  show wpAny _ A.in1 (ret Value.none) _ _ z'
  refine wpAny_pure (fin z' (mv.mono more) ?_)
  rw[<-hn,zrV] at ziI
  obtain⟨o,es,ep,t,ho,more'⟩:=ziI
  exact⟨o,es,ep,t,mv.heap S _ zl8 ho,more'⟩
 | succ k ih =>
  intro i z hk hi st ziI fin
  have il:i<n:=by omega
  refine codeAny_builtin PyProof.Rows.F.entry_set_update_loop ?_
  rw[Around.under_plainId PyProof.Rows.F.plain_set_update_loop _]
  show wpAny _ A.in1 (pyNext (.ref I)>>=_) _ _ z
  refine wpAny_bind (W.item i z _ _ il st fun v z' pv st' mv=>?_)
  obtain⟨t,rfl⟩:=hv i v pv
  have hset':z'.heap.SetOf (strKind P w) S (fun q=>(dd (xs.take i)).any (·==q)) (dd (xs.take i)).length:=by
   obtain⟨o,es,ep,tb,ho,more'⟩:=ziI
   exact⟨o,es,ep,tb,mv.heap S _ zl8 ho,more'⟩
  show wpAny _ A.in1 (holding [Value.str (xs.getD i "") t] (setAdd S (.str (xs.getD i "") t))>>=_) _ _ z'
  refine wpAny_bind (wpAny_holding ?_)
  unfold setAdd
  refine wpAny_holding ?_
  refine wpAny_bind ((strKind P w).pyHash (k:=xs.getD i "") (strKind_is _ _ _ _) ?_)
  have hroom:(dd (xs.take i)).length+1<scanBound:=by
   have:=zl7 (xs.take i)
   rw[zrQ] at this
   omega
  have et:xs.take (i+1)=xs.take i++[xs.getD i ""]:=by
   rw[List.take_succ,zrF,zrt (by omega)]
   rfl
  refine wpAny_setAddHashed_of (knd:=strKind P w) (s:={ z' with toks:=z'.toks+1 }) (strKind_is _ _ _ _) rfl hset' hroom fun h' sb s2=>?_
  have zl9:h'.SetOf (strKind P w) S (fun q=>(dd (xs.take (i+1))).any (·==q)) (dd (xs.take (i+1))).length :=
   SetOf_congr s2 (fun q=>by rw[et,zfr,K9]) (by rw[et,zfr,XR])
  refine wpAny_pure ⟨plainId_quiet PyProof.Rows.F.plain_set_update_loop _,ih (i+1) _ (by omega) il (W.frame _ z' _ _ st' (Nat.le_succ _) fun b hb' o e=>?_) zl9 fun z'' mv2 s3=>?_⟩
  ·rw[sb.2 b (fun h:b=S=>hS (by rw[<-h];exact hb'))];exact e
  ·refine fin z'' (Moved.trans W.gtrans ((mv.mono more).then_heap (Nat.le_succ _) fun b o hb' e=>?_) mv2) s3
   rw[sb.2 b (fun h:b=S=>hb' (by rw[h];exact zrM))];exact e
theorem ziJ {xs:List Str}:∀{us:List Value},Vals (xs.map V.str) us->∀(i:Nat) (v:Value),us[i]?=some v->∃t,v=.str (xs.getD i "") t:=by
 intro us r i v h
 have hl:=r.length
 rw[zrs] at hl
 have hi:i<xs.length:=by have:=(zrv.mp h).1;omega
 obtain⟨u,hu,t,e⟩:=r.get (i:=i) (x:=.str xs[i]) (by rw[zru,zrt hi];rfl)
 rw[h] at hu
 cases hu
 refine⟨t,?_⟩
 rw[e,zrF,zrt hi]
 rfl
set_option maxHeartbeats 8000000 in
theorem zhb {l:Addr}{us:List Value}{xs:List Str}{Q:Value->Shared->Prop}(hh:A.handled=none)(hl:s.heap.IsList l us.toArray)(r:Vals (xs.map V.str) us)(hb:xs.length+1<scanBound)
  (h:∀(h':Heap) (tk:Nat),h'.SetOf (strKind P w) s.heap.objs.size (fun q=>(dd xs).any (·==q)) (dd xs).length->(∀b o,s.heap.get? b=some o->h'.get? b=some o)->Q (.ref s.heap.objs.size) { s with heap:=h',toks:=tk }) :
  wpAny (model P w) A (call (.type "set") [.ref l]) Q E s:=by
 have hlen:xs.length=us.toArray.size:=by have:=r.length;rw[zrs] at this;simpa using this
 obtain⟨cc,tl,hmro⟩:=F.called_set.mro
 have made:=F.called_set.made
 have sub:=F.called_set.sub
 refine wpAny_call (codeAny_of_tree ?_)
 show wpAny _ _ (callAny (.type "set") _) _ _ _
 refine wpAny_pure ⟨Code.quiet_builtin _ (by decide +kernel),codeAny_builtin F.entry_type_call ?_⟩
 rw[Around.under_plain (weight_type_call_type "set" [.ref l] []) rfl]
 have a1:=F.called_set.notType
 have a2:=F.called_set.canCreate
 have a3:=F.typeCall_set_1 (.ref l)
 repeat (any_goals (first | assumption | wp_step))
 refine codeAny_mono (code_set_new_1 (.ref l) (E:=E) (Q₁:=fun ob z=>∃led:Bool,ob=.ref s.heap.objs.size/\z={ s with heap:=s.heap.push { cls:=.type "set", dict:=none,data:=.set #[] 0 (.fresh 0 0 led) } }) fun led=>⟨led,rfl,rfl⟩) fun res z hres=>?_
 cases res with
 | error e=>exact hres
 | ok fl =>
  cases fl with
  | ret ob =>
   obtain⟨led,rfl,rfl⟩:=hres
   have gS:(s.heap.push (JC led)).get? s.heap.objs.size=some (JC led):=zrN _ rfl
   have tS:Shared.TypeIs { s with heap:=s.heap.push (JC led) } (.ref s.heap.objs.size) "set" := ⟨_,gS,rfl⟩
   have b1:=F.called_set.init.lookup
   have b2:=F.called_set.init.bind (.ref s.heap.objs.size)
   repeat (any_goals (first | assumption | wp_step))
   refine codeAny_mono (codeAny_call_builtin (R:=wants (fun v z=>v=.none/\∃h' tk,z={ s with heap:=h',toks:=tk }/\h'.SetOf (strKind P w) s.heap.objs.size (fun q=>(dd xs).any (·==q)) (dd xs).length/\(∀b o,s.heap.get? b=some o->h'.get? b=some o)) E)
    F.called_set.init.plain F.entry_set_init (check_set_init_1 tS ?_)) fun res2 z2 zhc=>?_
   ·obtain⟨ol,gl,cl,nl,dl⟩:=hl
    obtain⟨ocls,odict,odata,oslots⟩:=ol
    have cl':ocls=.type "list" := cl
    have dl':odata=.seq us.toArray nl:=dl
    subst cl' dl'
    have gl':(s.heap.push (JC led)).get? l=some { cls:=.type "list", dict:=odict,data:=.seq us.toArray nl,slots:=oslots }:=zry _ gl
    have c1:=F.sub_list_set
    have c2:=F.sub_list_frozenset
    have c3:(Value.type "list" == Value.type "dict")=false:=by decide
    have isl:(s.heap.push (JC led)).IsList l us.toArray:=⟨_,gl',rfl,nl,rfl⟩
    unfold Builtin.«set.__init__» noKeywords Builtin.Frozenset.updateFrom
    generalize hit:pyIter=itf
    wp_walk
    subst hit
    refine wpAny_pyIter_list isl ?_
    refine wpAny_bind (wpAny_runValue ?_)
    have ltl:l<s.heap.objs.size:=zrz gl
    have hd3:A.in1.in1.in1.handled=none:=by simp[hh]
    have sz1:(s.heap.push (JC led)).objs.size=s.heap.objs.size+1:=Heap.size_push ..
    have nel:l≠(s.heap.push (JC led)).objs.size:=by rw[sz1];exact zrH (Nat.lt_succ_of_lt ltl)
    have nin:s.heap.objs.size∉[(s.heap.push (JC led)).objs.size,l]:=by
     rw[sz1]
     simp only[List.mem_cons,zrT,or_false,not_or]
     exact⟨zrH (Nat.lt_succ_self _),Nat.ne_of_gt ltl⟩
    refine zha ((Walks.list hd3 _ l nel us.toArray).toS) s.heap.objs.size nin xs hlen (fun i v hv=>ziJ r i v (by simpa using hv)) (by rw[<-hlen];exact hb) (us.toArray.size-0) 0 _ (by omega) (zrP _)
     ⟨⟨_,zrN _ rfl,rfl,rfl⟩,isl.push _⟩ ?s0 ?fin
    case s0 =>
     have gg:((s.heap.push (JC led)).push { cls:=.type "list_iterator", data:=.fields #[.ref l,.int 0 0] }).get? s.heap.objs.size=some (JC led):=zry _ gS
     exact SetOf_congr ((setObjOf_fresh (knd:=strKind P w) led).setOf gg (by unfold scanBound;omega)) (fun _=>rfl) rfl
    case fin =>
     intro z mv sz
     obtain⟨h',g',d',tk',os'⟩:=z
     have e1:g'=s.gens:=mv.gens
     have e2:d'=s.drawn:=mv.drawn
     have e3:os'=s.os:=mv.os
     subst e1 e2 e3
     show wpAny _ _ _ _ _ _
     refine wpAny_pure ?_
     show wpAny _ _ (ret Value.none) _ _ _
     refine wpAny_pure ⟨rfl,h',tk',rfl,sz,fun b o e=>?_⟩
     have lb:=zrz e
     have n1:b≠s.heap.objs.size:=zrH lb
     have n2:b≠(s.heap.push (JC led)).objs.size:=by rw[sz1];exact zrH (Nat.lt_succ_of_lt lb)
     exact mv.heap b o (by simp only[List.mem_cons,zrT,or_false,not_or];exact⟨n1,n2⟩) (zry _ (zry _ e))
   ·cases res2 with
    | error e=>exact zhc
    | ok fl2 =>
     cases fl2 with
     | ret v =>
      obtain⟨rfl,h',tk,rfl,sS,kk⟩:=zhc
      repeat (any_goals (first | assumption | wp_step))
      exact h _ _ sS kk
     | _=>exact zhc.elim
  | _=>exact hres.elim
end
section
variable {X:Cx}
def ziK (P:Program)(w:World)(a:Addr)(n:Nat):HO:=.ext fun h=>∃S,h.SetOf (strKind P w) a S n
theorem zhd (hc:X.calm=true):YF X (.type "set") (fun xs H Q=>∃(p:Addr) (ts:List Str),xs=[.ref p]/\zX X.K H p (ts.map V.str)/\ts.length<=100/\∀q,H q=none->Q (.ref q) (upd H q (ziK X.prog X.w q (dd ts).length))):=by
 intro pins s σ H xs us Q I r h
 obtain⟨p,ts,rfl,hq,h100,q⟩:=h
 obtain⟨u,rfl,rx⟩:=vals1 r
 cases rx
 obtain⟨its,r',pl,hz⟩:=I.list hq
 refine zhb (I.ok.hd hc) pl.isList r' (Nat.lt_of_le_of_lt (Nat.add_le_add_right h100 1) (by decide)) fun h' tk hS hk=>?_
 refine⟨.ref s.heap.objs.size,_,I.laid hk (zrI _) (o:=ziK X.prog X.w s.heap.objs.size (dd ts).length) ?_,rfl,q _ (I.hok.fresh (zrI _))⟩
 refine⟨⟨_,hS⟩,?_,?_⟩
 ·obtain⟨o,es,ep,t,ho,_⟩:=hS
  exact⟨o,ho⟩
 ·rintro h1 h2 ⟨S,o,es,ep,t,ho,rest⟩ k
  exact⟨S,o,es,ep,t,k o ho,rest⟩
theorem call_len_set':YF X (.builtin "len") (fun xs H Q=>∃(p:Addr) (n:Nat),xs=[.ref p]/\H p=some (ziK X.prog X.w p n)/\Q (.int n) H):=by
 intro pins s σ H xs us Q I r h
 obtain⟨p,n,rfl,hp,q⟩:=h
 obtain⟨u,rfl,rx⟩:=vals1 r
 cases rx
 obtain⟨⟨S,o,es,ep,t,ho,hex,hd,_,_,hb,hf,hn⟩,_⟩:=I.hok p _ hp
 have h63:(es.size:Int)<2^63:=by
  have h1:scanBound<2^63:=by decide
  omega
 refine call_len_set ho hex hd hf h63 ⟨.int n,H,I.tok _,⟨s.toks+1,?_⟩,q⟩
 rw[hn]
def ziL (K:Frag)(P:Program)(w:World)(a:Addr)(kvs:List (Str×Value)):Prop:=(a==sysModules)=false/\∃o,K.lookup a=some o/\o.IsDictOf (strKind P w) kvs
theorem zbW {a:Addr}{kvs:List (Str×Value)}(hd:ziL X.K X.prog X.w a kvs):IxR X (fun x y H Q=>∃k u v,x=.ref a/\y=.str k/\valueAt kvs k=some u/\RelV v u/\Q v H):=by
 intro value slice pins s σ H x y v u Q I rx ry h hs
 obtain⟨k,z,vv,rfl,rfl,hv,rv,q⟩:=h
 cases rx
 obtain⟨t,rfl⟩:=ry
 obtain⟨_,o,hk,hdd⟩:=hd
 have D:s.heap.DictOf (strKind X.prog X.w) a kvs:=Heap.dictOf_iff.mpr ⟨o,I.N6 a o hk,hdd⟩
 exact tail_any D.typeIs slot_dict_getitem.lookup (wpAny_getItem_of (strKind_is _ _ k t) D.mapOf hv ⟨vv,H,I.tok _,rv,q⟩) hs
theorem zaE {a:Addr}{kvs:List (Str×Value)}(hd:ziL X.K X.prog X.w a kvs):Uq X (compareOp .NotIn) (fun x y H Q=>∃k,x=.str k/\y=.ref a/\Q (.bl (!(valueAt kvs k).isSome)) H):=by
 intro pins s σ H x y v u Q I rx ry h
 obtain⟨k,rfl,rfl,q⟩:=h
 cases ry
 obtain⟨t,rfl⟩:=rx
 obtain⟨hs,o,hk,hdd⟩:=hd
 have D:s.heap.DictOf (strKind X.prog X.w) a kvs:=Heap.dictOf_iff.mpr ⟨o,I.N6 a o hk,hdd⟩
 exact wpAny_notIn_of (strKind_is _ _ k t) hs D.mapOf ⟨.bl _,H,I.tok _,rfl,q⟩
theorem Inv.zfs {pins:List (Addr×Obj)}{σ:St}{H:Hp}{s:Shared}{h':Heap}{t':Nat}{fp:List Addr}(I:Inv X pins σ H s)(k:∀b o,b∉fp->s.heap.get? b=some o->h'.get? b=some o)(ex:∀b∈fp,∃o,h'.get? b=some o)(hf:∀b∈fp,zay X pins H b) :
  Inv X pins σ H { s with heap:=h',toks:=t' }:=by
 have nit:∀b u,H b=some u->b∉fp:=fun b u e z=>by rw[(hf b z).1] at e;cases e
 refine I.step (g':=s.gens) (d':=s.drawn) (ch:=fp) (fun b hb=>⟨(hf b hb).2.2.2.1,(hf b hb).2.1,(hf b hb).2.2.2.2.1,(hf b hb).2.2.2.2.2⟩) (fun b o _ _ hc e _=>k b o hc e) (fun b o _ _ hc e _=>⟨o.slots,k b o hc e⟩) (fun _ _ _ _ n=>n)
  (fun b o hc e=>⟨o,k b o hc e⟩) (fun _ _ e=>e) (fun _ _ _ e=>e) (fun b ps e=>⟨#[],by rw[e];simp⟩) (fun m hm=>?_) (fun b u e=>?_) I.bare
 ·obtain⟨o,es,ep,ho,r⟩:=hm
  exact⟨o,es,ep,k _ o (fun z=>(hf _ z).2.1 rfl) ho,r⟩
 ·refine(I.hok b u e).stay (fun c v hc q=>k c v ?_ q) (fun _ q=>q) fun _ _ q=>q
  rcases hc with z | z
  ·rw[z];exact nit b u e
  ·exact nit c _ z
theorem boot_enumerate:bootBuiltins "enumerate"=some (.type "enumerate"):=by decide +kernel
end
theorem yL:bootBuiltins "len"=some (.builtin "len"):=by decide +kernel
theorem JD:bootBuiltins "all"=some (.builtin "all"):=by decide +kernel
theorem Rj:bootBuiltins "isinstance"=some (.builtin "isinstance"):=by decide +kernel
theorem zhe:bootBuiltins "int"=some (.type "int"):=by decide +kernel
theorem zkP:bootBuiltins "str"=some (.type "str"):=by decide +kernel
theorem zhf:bootBuiltins "tuple"=some (.type "tuple"):=by decide +kernel
theorem Vy:bootBuiltins "list"=some (.type "list"):=by decide +kernel
theorem zkQ:bootBuiltins "set"=some (.type "set"):=by decide +kernel
theorem zeA {v:V}{u:Value}(h:zef u=some v):RelV v u:=by
 cases u<;>simp only[zef,Option.some.injEq,reduceCtorEq] at h<;>subst h<;>first | exact rfl | exact⟨_,rfl⟩
theorem Lr:∀{us:List Value} {xs:List V},us.map zef=xs.map some->Vals xs us
 | [],[],_=>.nil
 | u::us,x::xs,h=>by
  rw[zrR,zrR] at h
  injection h with h1 h2
  exact .cons (zeA h1) (Lr h2)
 | [],_::_,h=>by cases h
 | _::_,[],h=>by cases h
theorem zj1 {K:Frag}{H:Hp}{p:Addr}{od:Option Addr}{it:Array Value}{n:Nat}{sl:Array (Option Value)}{xs:List V}(l:K.lookup p=some ⟨.type "tuple", od,.seq it n,sl⟩)(v:it.toList.map zef=xs.map some)(hz:xs.length<=1000):vp K H p xs:=by
 have r:=Lr v
 refine .inr ⟨_,it,n,l,rfl,rfl,?_,r⟩
 have e:xs.length=it.size:=by have:=r.length;simpa using this
 rw[<-e]
 exact zrL (zY hz)
theorem zkR {P:Program}{w:World}:Pairs (strKind P w) [] []/\∀e∈([]:List DictEntry),∃k,(strKind P w).is k e.key=true/\e.hash=(strKind P w).hash k:=⟨.nil,fun _ h=>nomatch h⟩
theorem ziM {P:Program}{w:World}{k:Str}{t:Tok}{v:Value}{es:List DictEntry}{kvs:List (Str×Value)}(h:Pairs (strKind P w) es kvs/\∀e∈es,∃k,(strKind P w).is k e.key=true/\e.hash=(strKind P w).hash k) :
  Pairs (strKind P w) (⟨hashStr w k,.str k t,v⟩::es) ((k,v)::kvs)/\∀e∈(⟨hashStr w k,.str k t,v⟩::es:List DictEntry),∃k,(strKind P w).is k e.key=true/\e.hash=(strKind P w).hash k:=by
 refine⟨.cons (strKind_is _ _ k t) rfl h.1,fun e he=>?_⟩
 rcases List.mem_cons.mp he with z | z
 ·subst z;exact⟨k,strKind_is _ _ k t,rfl⟩
 ·exact h.2 e z
theorem ziN {P:Program}{w:World}{K:Frag}{p:Addr}{es:Array DictEntry}{ep:Nat}{el:List DictEntry}{kvs:List (Str×Value)}(l:K.lookup p=some ⟨.type "dict", none,.dict es ep,#[]⟩)(e:es.toList=el)(s:(p==sysModules)=false)
  (h:Pairs (strKind P w) el kvs/\∀e∈el,∃k,(strKind P w).is k e.key=true/\e.hash=(strKind P w).hash k)(nd:(kvs.map (·.1)).Nodup):ziL K P w p kvs:=by
 subst e
 exact⟨s,_,l,es,ep,⟨rfl,rfl,rfl⟩,rfl,fun x hx=>h.2 x (by simpa using hx),h.1,nd⟩
end L2
namespace uU
open PySem
inductive Sn where
 | c0 (y:Bool)
 | mk (x:Str)
 | nt (s:Sn)
 | b2 (o:Fin 4) (s t:Sn)
 | q1 (o:Bool) (x:Str) (s:Sn)
def w2:Fin 4->Str
 | 0 => "and"
 | 1 => "or"
 | 2 => "either"
 | 3 => "if"
namespace Sn
def word:Sn->Str
 | c0 true => "yes"
 | c0 false => "no"
 | mk _ => "mark"
 | nt _ => "not"
 | b2 o _ _=>w2 o
 | q1 true _ _ => "some"
 | q1 false _ _ => "each"
def letters:Sn->List Str
 | mk x=>[x]
 | q1 _ x _=>[x]
 | _=>[]
def parts:Sn->List Sn
 | nt s=>[s]
 | b2 _ s t=>[s,t]
 | q1 _ _ s=>[s]
 | _=>[]
def count:Sn->Nat
 | nt s=>1+s.count
 | b2 _ s t=>1+(s.count+t.count)
 | q1 _ _ s=>1+s.count
 | _=>1
def depth:Sn->Nat
 | nt s=>1+s.depth
 | b2 _ s t=>1+max s.depth t.depth
 | q1 _ _ s=>1+s.depth
 | _=>1
def QK (os:List Str):Sn->Prop
 | c0 _=>True
 | mk x=>x∈os
 | nt s=>s.QK os
 | b2 _ s t=>s.QK os/\t.QK os
 | q1 _ x s=>x∈os/\s.QK os
def op2:Fin 4->Bool->Bool->Bool
 | 0,a,b=>a&&b
 | 1,a,b=>a||b
 | 2,a,b=>a != b
 | 3,a,b=>!a||b
def val:Sn->(Str->Bool)->Bool
 | c0 y,_=>y
 | mk x,e=>e x
 | nt s,e=>!s.val e
 | b2 o s t,e=>op2 o (s.val e) (t.val e)
 | q1 true x s,e=>s.val (fun y=>if y=x then true else e y)||s.val (fun y=>if y=x then false else e y)
 | q1 false x s,e=>s.val (fun y=>if y=x then true else e y)&&s.val (fun y=>if y=x then false else e y)
theorem val_congr {os:List Str}:∀(s:Sn) {e e':Str->Bool},s.QK os->(∀x∈os,e x=e' x)->s.val e=s.val e'
 | c0 _,_,_,_,_=>rfl
 | mk x,_,_,h,q=>q x h
 | nt s,_,_,h,q=>by unfold val;rw[val_congr s h q]
 | b2 o s t,_,_,h,q=>by unfold val;rw[val_congr s h.1 q,val_congr t h.2 q]
 | q1 o x s,e,e',h,q=>by
  have k:∀b:Bool,s.val (fun y=>if y=x then b else e y)=s.val (fun y=>if y=x then b else e' y):=fun b=>val_congr s h.2 fun y hy=>by
   by_cases hx:y=x
   ·rw[if_pos hx,if_pos hx]
   ·rw[if_neg hx,if_neg hx,q y hy]
  cases o<;>(unfold val;rw[k,k])
theorem Mi:∀s:Sn,1<=s.depth
 | c0 _=>zrI _
 | mk _=>zrI _
 | nt _=>by unfold depth;omega
 | b2 _ _ _=>by unfold depth;omega
 | q1 _ _ _=>by unfold depth;omega
theorem Ls:∀s:Sn,s.count=1+(s.parts.map count).sum
 | c0 _=>rfl
 | mk _=>rfl
 | nt _=>by simp[count,parts]
 | b2 _ _ _=>by simp[count,parts]
 | q1 _ _ _=>by simp[count,parts]
theorem UG:∀(s:Sn),∀t∈s.parts,t.depth+1<=s.depth
 | c0 _,t,h=>by simp[parts] at h
 | mk _,t,h=>by simp[parts] at h
 | nt s,t,h=>by simp[parts] at h;subst h;show t.depth+1<=1+t.depth;omega
 | b2 _ s u,t,h=>by
  simp[parts] at h
  rcases h with h | h
  ·subst h;show t.depth+1<=1+max t.depth u.depth;omega
  ·subst h;show t.depth+1<=1+max s.depth t.depth;omega
 | q1 _ _ s,t,h=>by simp[parts] at h;subst h;show t.depth+1<=1+t.depth;omega
theorem zbd {os:List Str}:∀(s:Sn),s.QK os->∀t∈s.parts,t.QK os
 | c0 _,_,t,h=>by simp[parts] at h
 | mk _,_,t,h=>by simp[parts] at h
 | nt s,q,t,h=>by simp[parts] at h;subst h;exact q
 | b2 _ s u,q,t,h=>by
  simp[parts] at h
  rcases h with h | h<;>subst h
  ·exact q.1
  ·exact q.2
 | q1 _ _ s,q,t,h=>by simp[parts] at h;subst h;exact q.2
theorem zc7 {os:List Str}:∀(s:Sn),s.QK os->∀x∈s.letters,x∈os
 | c0 _,_,t,h=>by simp[letters] at h
 | mk _,q,t,h=>by simp[letters] at h;subst h;exact q
 | nt s,q,t,h=>by simp[letters] at h
 | b2 _ s u,q,t,h=>by simp[letters] at h
 | q1 _ _ s,q,t,h=>by simp[letters] at h;subst h;exact q.1
end Sn
theorem vg (b p:Nat):(b+2^p).testBit p=!b.testBit p:=by rw[Nat.add_comm];exact Nat.testBit_two_pow_add_eq b p
theorem Sg {b p j:Nat}(h:j<p):(b+2^p).testBit j=b.testBit j:=by rw[Nat.add_comm];exact Nat.testBit_two_pow_add_gt h b
theorem zhg {b p:Nat}(h:b.testBit p=false):b%2^(p+1)<2^p:=by
 have e:b%2^(p+1)=b%2^p+2^p*(b / 2^p%2):=by
  rw[Nat.pow_succ];exact Nat.mod_mul
 have z:b / 2^p%2=0:=by
  rw[Nat.testBit_eq_decide_div_mod_eq] at h
  have:=of_decide_eq_false h
  omega
 rw[e,z,Nat.mul_zero,Nat.add_zero]
 exact Nat.mod_lt b (Nat.two_pow_pos p)
theorem zhh (x i j:Nat):x.testBit (i+j)=(x / 2^i).testBit j:=by
 rw[Nat.testBit_div_two_pow,Nat.add_comm]
theorem zbe {b p j:Nat}(h:p<j)(h0:b.testBit p=false):(b+2^p).testBit j=b.testBit j:=by
 obtain⟨k,rfl⟩:∃k,j=(p+1)+k:=⟨j-(p+1),by omega⟩
 rw[zhh,zhh]
 have hm:=zhg h0
 have e:(b+2^p) / 2^(p+1)=b / 2^(p+1):=by
  have hp:2^(p+1)=2^p+2^p:=by rw[Nat.pow_succ];omega
  have d:=Nat.div_add_mod b (2^(p+1))
  have pos:=Nat.two_pow_pos (p+1)
  rw[Nat.div_eq_iff pos]
  have c:b / 2^(p+1)*2^(p+1)=2^(p+1)*(b / 2^(p+1)):=Nat.mul_comm _ _
  rw[c]
  omega
 rw[e]
def zE (b p:Nat)(v:Bool):Nat:=if b.testBit p=v then b else if v then b+2^p else b-2^p
theorem zbf {b p:Nat}(h:b.testBit p=true):2^p<=b:=Nat.ge_two_pow_of_testBit h
theorem zM (b p j:Nat)(v:Bool):(zE b p v).testBit j=if j=p then v else b.testBit j:=by
 unfold zE
 by_cases h:b.testBit p=v
 ·rw[if_pos h]
  by_cases hj:j=p
  ·rw[if_pos hj,hj,h]
  ·rw[if_neg hj]
 ·rw[if_neg h]
  cases v with
  | true =>
   have h0:b.testBit p=false:=by simpa using h
   rw[if_pos rfl]
   by_cases hj:j=p
   ·subst hj;rw[if_pos rfl,vg,h0];rfl
   ·rw[if_neg hj]
    rcases Nat.lt_or_gt_of_ne hj with q | q
    ·exact Sg q
    ·exact zbe q h0
  | false =>
   have h1:b.testBit p=true:=by simpa using h
   rw[if_neg zrw]
   have ge:=zbf h1
   obtain⟨c,hc⟩:∃c,b=c+2^p:=⟨b-2^p,by omega⟩
   have h0:c.testBit p=false:=by
    rw[hc,vg] at h1
    simpa using h1
   have e:b-2^p=c:=by omega
   rw[e,hc]
   by_cases hj:j=p
   ·subst hj;rw[if_pos rfl,h0]
   ·rw[if_neg hj]
    rcases Nat.lt_or_gt_of_ne hj with q | q
    ·exact(Sg q).symm
    ·exact(zbe q h0).symm
theorem zP {b p n:Nat}{v:Bool}(hb:b<2^n)(hp:p<n):zE b p v<2^n:=by
 refine Nat.lt_pow_two_of_testBit _ fun i hi=>?_
 rw[zM,if_neg (by omega)]
 exact Nat.testBit_lt_two_pow (zrB hb (zrY (by decide) hi))
def zN (n:Nat)(N:Nat)(f:Nat->Bool):Prop:=∀b,N.testBit b=(decide (b<2^n)&&f b)
theorem XS (n:Nat):zN n (2^2^n-1) (fun _=>true):=fun b=>by
 rw[Nat.testBit_two_pow_sub_one,Bool.and_true]
theorem vH (n:Nat):zN n 0 (fun _=>false):=fun b=>by simp
theorem Vz {n N M:Nat}{f g:Nat->Bool}(h:zN n N f)(k:zN n M g):zN n (N ^^^ M) (fun b=>f b != g b):=fun b=>by
 rw[Nat.testBit_xor,h b,k b]
 show _=(decide (b<2^n)&&(f b != g b))
 cases decide (b<2^n)<;>cases f b<;>cases g b<;>rfl
theorem ur {n N M:Nat}{f g:Nat->Bool}(h:zN n N f)(k:zN n M g):zN n (N&&&M) (fun b=>f b&&g b):=fun b=>by
 rw[Nat.testBit_and,h b,k b]
 show _=(decide (b<2^n)&&(f b&&g b))
 cases decide (b<2^n)<;>cases f b<;>cases g b<;>rfl
theorem Wt {n N M:Nat}{f g:Nat->Bool}(h:zN n N f)(k:zN n M g):zN n (N|||M) (fun b=>f b||g b):=fun b=>by
 rw[Nat.testBit_or,h b,k b]
 show _=(decide (b<2^n)&&(f b||g b))
 cases decide (b<2^n)<;>cases f b<;>cases g b<;>rfl
theorem yE {n N:Nat}{f g:Nat->Bool}(h:zN n N f)(e:∀b,b<2^n->f b=g b):zN n N g:=fun b=>by
 rw[h b]
 by_cases hb:b<2^n
 ·rw[e b hb]
 ·rw[decide_eq_false hb];rfl
theorem zhi {n N:Nat}{f:Nat->Bool}(h:zN n N f):N<2^2^n:=Nat.lt_pow_two_of_testBit _ fun i hi=>by
 rw[h i,decide_eq_false (by omega)];rfl
theorem zgh (p:Nat):zN (p+1) ((2^2^p-1)*2^2^p) (fun b=>b.testBit p):=fun b=>by
 rw[Nat.testBit_mul_two_pow,Nat.testBit_two_pow_sub_one]
 show _=(decide (b<2^(p+1))&&b.testBit p)
 have hp:2^(p+1)=2^p+2^p:=by rw[Nat.pow_succ];omega
 by_cases h1:2^p<=b
 ·by_cases h2:b<2^(p+1)
  ·have e:b.testBit p=true:=by
    obtain⟨c,rfl⟩:∃c,b=c+2^p:=⟨b-2^p,by omega⟩
    rw[vg,Nat.testBit_lt_two_pow (by omega)]
    rfl
   rw[e]
   simp[h1,h2]
   omega
  ·simp[h2]
   intro _
   omega
 ·have e:b.testBit p=false:=Nat.testBit_lt_two_pow (by omega)
  rw[e]
  simp[h1]
theorem zeB {p m N:Nat}(hp:p<m)(h:zN m N (fun b=>b.testBit p)):zN (m+1) (N|||N*2^2^m) (fun b=>b.testBit p):=fun b=>by
 rw[Nat.testBit_or,Nat.testBit_mul_two_pow,h b,h (b-2^m)]
 show(_||(_&&(_&&(b-2^m).testBit p)))=(decide (b<2^(m+1))&&b.testBit p)
 have hm:2^(m+1)=2^m+2^m:=by rw[Nat.pow_succ];omega
 by_cases h1:b<2^m
 ·have h2:b<2^(m+1):=by omega
  have h3:¬ 2^m<=b:=by omega
  simp[h1,h2,h3]
 ·have h3:2^m<=b:=by omega
  have e:(b-2^m).testBit p=b.testBit p:=by
   obtain⟨c,rfl⟩:∃c,b=c+2^m:=⟨b-2^m,by omega⟩
   rw[Sg hp,Nat.add_sub_cancel]
  rw[e]
  by_cases h2:b<2^(m+1)
  ·have h4:b-2^m<2^m:=by omega
   simp[h1,h2,h3,h4]
  ·have h4:¬b-2^m<2^m:=by omega
   simp[h1,h2,h3,h4]
theorem zhj {n p N R:Nat}{f:Nat->Bool}(hp:p<n)(h:zN n N f)(r:zN n R (fun b=>b.testBit p)) :
  zN n ((N&&&R) / 2^2^p|||(N ^^^ (N&&&R))*2^2^p) (fun b=>f (zE b p (!b.testBit p))):=fun b=>by
 have o:=ur h r
 have z:=Vz h o
 have pp:=Nat.two_pow_pos p
 rw[Nat.testBit_or,Nat.testBit_mul_two_pow,Nat.testBit_div_two_pow,o,z]
 dsimp only
 by_cases hb:b<2^n
 ·cases hbit:b.testBit p with
  | false =>
   have e:zE b p (!false)=b+2^p:=by
    unfold zE
    rw[hbit,if_neg (by decide),if_pos (by decide)]
   have lt:b+2^p<2^n:=by rw[<-e];exact zP hb hp
   rw[e,vg,hbit]
   by_cases h1:2^p<=b
   ·have e2:(b-2^p).testBit p=true:=by
     obtain⟨c,rfl⟩:∃c,b=c+2^p:=⟨b-2^p,by omega⟩
     rw[vg] at hbit
     rw[Nat.add_sub_cancel]
     simpa using hbit
    rw[e2]
    have h4:b-2^p<2^n:=by omega
    simp[hb,lt,h1,h4]
   ·simp[hb,lt,h1]
  | true =>
   have ge:=zbf hbit
   have e:zE b p (!true)=b-2^p:=by
    unfold zE
    rw[hbit,if_neg (by decide),if_neg (by decide)]
   have e2:(b-2^p).testBit p=false:=by
    obtain⟨c,rfl⟩:∃c,b=c+2^p:=⟨b-2^p,by omega⟩
    rw[vg] at hbit
    rw[Nat.add_sub_cancel]
    simpa using hbit
   rw[e,vg,hbit,e2]
   have h4:b-2^p<2^n:=by omega
   simp[hb,ge,h4]
 ·have h3:¬b+2^p<2^n:=by omega
  have h5:(decide (2^p<=b)&&(decide (b-2^p<2^n)&&(f (b-2^p) != (f (b-2^p)&&(b-2^p).testBit p))))=false:=by
   by_cases h1:2^p<=b
   ·by_cases h4:b-2^p<2^n
    ·
     have e:(b-2^p).testBit p=true:=by
      cases q:(b-2^p).testBit p with
      | true=>rfl
      | false =>
       exfalso
       have l:=zP (v:=true) h4 hp
       unfold zE at l
       rw[q,if_neg (by decide),if_pos rfl] at l
       omega
     rw[e]
     cases f (b-2^p)<;>simp
    ·simp[h4]
   ·simp[h1]
  rw[h5]
  simp[hb,h3]
theorem Rk (a:Nat):a%2=(a.testBit 0).toNat:=by
 rw[Nat.testBit_zero]
 have:=Nat.mod_two_eq_zero_or_one a
 rcases this with h | h<;>rw[h]<;>rfl
theorem zft:∀(n a b:Nat),a<=n->(a ^^^ b)+2*(a&&&b)=a+b
 | 0,a,b,h=>by
  have:a=0:=by omega
  subst this;simp
 | n+1,a,b,h=>by
  by_cases h0:a=0
  ·subst h0;simp
  ·have ih:=zft n (a / 2) (b / 2) (by omega)
   have e1:(a ^^^ b) / 2=a / 2 ^^^ b / 2:=Nat.xor_div_two
   have e2:(a&&&b) / 2=a / 2&&&b / 2:=Nat.and_div_two
   have d1:=Nat.div_add_mod (a ^^^ b) 2
   have d2:=Nat.div_add_mod (a&&&b) 2
   have d3:=Nat.div_add_mod a 2
   have d4:=Nat.div_add_mod b 2
   rw[e1] at d1
   rw[e2] at d2
   cases ha:a.testBit 0<;>cases hb:b.testBit 0
   ·have m1:(a ^^^ b)%2=0:=by rw[Rk,Nat.testBit_xor,ha,hb];rfl
    have m2:(a&&&b)%2=0:=by rw[Rk,Nat.testBit_and,ha,hb];rfl
    have m3:a%2=0:=by rw[Rk,ha];rfl
    have m4:b%2=0:=by rw[Rk,hb];rfl
    omega
   ·have m1:(a ^^^ b)%2=1:=by rw[Rk,Nat.testBit_xor,ha,hb];rfl
    have m2:(a&&&b)%2=0:=by rw[Rk,Nat.testBit_and,ha,hb];rfl
    have m3:a%2=0:=by rw[Rk,ha];rfl
    have m4:b%2=1:=by rw[Rk,hb];rfl
    omega
   ·have m1:(a ^^^ b)%2=1:=by rw[Rk,Nat.testBit_xor,ha,hb];rfl
    have m2:(a&&&b)%2=0:=by rw[Rk,Nat.testBit_and,ha,hb];rfl
    have m3:a%2=1:=by rw[Rk,ha];rfl
    have m4:b%2=0:=by rw[Rk,hb];rfl
    omega
   ·have m1:(a ^^^ b)%2=0:=by rw[Rk,Nat.testBit_xor,ha,hb];rfl
    have m2:(a&&&b)%2=1:=by rw[Rk,Nat.testBit_and,ha,hb];rfl
    have m3:a%2=1:=by rw[Rk,ha];rfl
    have m4:b%2=1:=by rw[Rk,hb];rfl
    omega
theorem zhk:∀(n a b:Nat),a<=n->(a|||b)+(a&&&b)=a+b
 | 0,a,b,h=>by
  have:a=0:=by omega
  subst this;simp
 | n+1,a,b,h=>by
  by_cases h0:a=0
  ·subst h0;simp
  ·have ih:=zhk n (a / 2) (b / 2) (by omega)
   have e1:(a|||b) / 2=a / 2|||b / 2:=Nat.or_div_two
   have e2:(a&&&b) / 2=a / 2&&&b / 2:=Nat.and_div_two
   have d1:=Nat.div_add_mod (a|||b) 2
   have d2:=Nat.div_add_mod (a&&&b) 2
   have d3:=Nat.div_add_mod a 2
   have d4:=Nat.div_add_mod b 2
   rw[e1] at d1
   rw[e2] at d2
   cases ha:a.testBit 0<;>cases hb:b.testBit 0
   ·have m1:(a|||b)%2=0:=by rw[Rk,Nat.testBit_or,ha,hb];rfl
    have m2:(a&&&b)%2=0:=by rw[Rk,Nat.testBit_and,ha,hb];rfl
    have m3:a%2=0:=by rw[Rk,ha];rfl
    have m4:b%2=0:=by rw[Rk,hb];rfl
    omega
   ·have m1:(a|||b)%2=1:=by rw[Rk,Nat.testBit_or,ha,hb];rfl
    have m2:(a&&&b)%2=0:=by rw[Rk,Nat.testBit_and,ha,hb];rfl
    have m3:a%2=0:=by rw[Rk,ha];rfl
    have m4:b%2=1:=by rw[Rk,hb];rfl
    omega
   ·have m1:(a|||b)%2=1:=by rw[Rk,Nat.testBit_or,ha,hb];rfl
    have m2:(a&&&b)%2=0:=by rw[Rk,Nat.testBit_and,ha,hb];rfl
    have m3:a%2=1:=by rw[Rk,ha];rfl
    have m4:b%2=0:=by rw[Rk,hb];rfl
    omega
   ·have m1:(a|||b)%2=1:=by rw[Rk,Nat.testBit_or,ha,hb];rfl
    have m2:(a&&&b)%2=1:=by rw[Rk,Nat.testBit_and,ha,hb];rfl
    have m3:a%2=1:=by rw[Rk,ha];rfl
    have m4:b%2=1:=by rw[Rk,hb];rfl
    omega
theorem zkS (a b:Nat):Builtin.bitAnd (a:Int) (b:Int)=((a&&&b:Nat):Int):=by
 unfold Builtin.bitAnd
 rw[decide_eq_true (Int.natCast_nonneg a),decide_eq_true (Int.natCast_nonneg b)]
 simp
theorem orI (a b:Nat):Builtin.bitOr (a:Int) (b:Int)=((a|||b:Nat):Int):=by
 rw[PyProof.Rows.bitOr_and,zkS]
 have:=zhk a a b (zrI _)
 omega
theorem znY (a b:Nat):Builtin.bitXor (a:Int) (b:Int)=((a ^^^ b:Nat):Int):=by
 rw[PyProof.Rows.bitXor_and,zkS]
 have:=zft a a b (zrI _)
 omega
theorem zma (n:Nat):(2:Int)^n=((2^n:Nat):Int):=by simp
end uU
namespace L2
open PySem PySem.Spec PyProof.Rows uU
section
variable {X:Cx}
def zmb:R2:=fun x y H Q=>∃a n:Nat,x=.int a/\y=.int n/\a<2^10000/\n<=10000/\Q (.int (a*2^n:Nat)) H
theorem Yi:Uq X (binaryOp .LShift) zmb:=by
 intro pins s σ H x y v u Q I rx ry h
 obtain⟨a,n,rfl,rfl,ha,hn,q⟩:=h
 obtain⟨t,rfl⟩:=rx
 obtain⟨t',rfl⟩:=ry
 have hb:Builtin.Int.intBits (a:Int)<=10000:=intBits_le (by simpa using ha)
 refine lshift_int (Int.natCast_nonneg n) ?_ ?_
 ·have e:(2:Int)^27=134217728:=by decide
  rw[e];omega
 ·rw[zr5]
  have e:(a:Int)*2^n=((a*2^n:Nat):Int):=by rw[zma,Int.natCast_mul]
  rw[e]
  exact⟨.int (a*2^n:Nat),H,I.tok _,⟨_,rfl⟩,q⟩
def zmc:R2:=fun x y H Q=>∃a n:Nat,x=.int a/\y=.int n/\Q (.int (a / 2^n:Nat)) H
theorem ziO:Uq X (binaryOp .RShift) zmc:=by
 intro pins s σ H x y v u Q I rx ry h
 obtain⟨a,n,rfl,rfl,q⟩:=h
 refine zkA pins s σ H _ _ v u Q I rx ry ⟨_,_,rfl,rfl,Int.natCast_nonneg n,?_⟩
 show Q (.int ((a:Int) / 2^(n:Int).toNat)) H
 rw[zr5,zma,<-Int.natCast_ediv]
 exact q
def rN2 (g:Nat->Nat->Nat):R2:=fun x y H Q=>∃a b:Nat,x=.int a/\y=.int b/\Q (.int (g a b:Nat)) H
theorem uw:Uq X (binaryOp .BitAnd) (rN2 (·&&&·)):=by
 intro pins s σ H x y v u Q I rx ry h
 obtain⟨a,b,rfl,rfl,q⟩:=h
 exact zkB pins s σ H _ _ v u Q I rx ry ⟨_,_,rfl,rfl,by show Q (.int (Builtin.bitAnd a b)) H;rw[zkS];exact q⟩
theorem Xj:Uq X (binaryOp .BitOr) (rN2 (·|||·)):=by
 intro pins s σ H x y v u Q I rx ry h
 obtain⟨a,b,rfl,rfl,q⟩:=h
 exact zlT pins s σ H _ _ v u Q I rx ry ⟨_,_,rfl,rfl,by show Q (.int (Builtin.bitOr a b)) H;rw[orI];exact q⟩
theorem Sh:Uq X (binaryOp .BitXor) (rN2 (· ^^^ ·)):=by
 intro pins s σ H x y v u Q I rx ry h
 obtain⟨a,b,rfl,rfl,q⟩:=h
 exact zkC pins s σ H _ _ v u Q I rx ry ⟨_,_,rfl,rfl,by show Q (.int (Builtin.bitXor a b)) H;rw[znY];exact q⟩
end
end L2
namespace L2
open PySem PySem.Spec PyProof.Rows
def strsOf:List Expr->Option (List Str)
 | []=>some []
 | .Constant (.str x) _ _::r=>(strsOf r).map (x::·)
 | _=>none
theorem zc8 {e:Expr}{r:List Expr}{xs:List Str}(h:strsOf (e::r)=some xs):∃x j p ys,e=.Constant (.str x) j p/\strsOf r=some ys/\xs=x::ys:=by
 cases e with
 | Constant c j p =>
  cases c with
  | str x =>
   have h':(strsOf r).map (x::·)=some xs:=h
   cases hr:strsOf r with
   | none=>rw[hr] at h';cases h'
   | some ys =>
    rw[hr] at h'
    exact⟨x,j,p,ys,rfl,rfl,(zrX h').symm⟩
  | _=>cases h
 | _=>cases h
def zmd (xs:List Str):TA:=fun _ H Q=>Q (xs.map V.str) H
def zj2 (xs:List Str):TE:=fun _ H Q=>xs.length<=sizeLine/\∀p,H p=none->Q (.ref p) (upd H p (.lst (xs.map V.str)))
section
variable {X:Cx}
theorem ziP {es:List Expr}:∀{xs:List Str},strsOf es=some xs->PA X es (zmd xs):=by
 induction es with
 | nil =>
  intro xs h
  cases h
  exact fun pos pins s σ H Q I q=>zc pos pins s σ H Q I q
 | cons e r ih =>
  intro xs h
  obtain⟨x,j,p,ys,rfl,hr,rfl⟩:=zc8 h
  exact fun pos pins s σ H Q I q=>za (yM (x:=x) (j:=j) (pos:=p)) (ih hr) rfl pos pins s σ H Q I q
theorem ziQ {es:List Expr}{pos:Pos}{xs:List Str}(h:strsOf es=some xs):PE X (.List es pos) (zj2 xs):=by
 intro pins s σ H Q I q
 refine vY (ziP h) pins s σ H Q I ⟨?_,q.2⟩
 rw[zrs];exact q.1
def zbX:Stmt->Option (Str×List Str)
 | .Assign [.Name x _] (.List es _) _=>(strsOf es).map (x,·)
 | _=>none
theorem zbY {st:Stmt}{x:Str}{xs:List Str}(h:zbX st=some (x,xs)):∃p es q r,st=.Assign [.Name x p] (.List es q) r/\strsOf es=some xs:=by
 unfold zbX at h
 split at h
 ·rename_i y p es q r
  cases hs:strsOf es with
  | none=>rw[hs] at h;cases h
  | some ys =>
   rw[hs] at h
   cases h
   exact⟨_,_,_,_,rfl,hs⟩
 ·cases h
theorem ziR {i:Nat}{x:Str}{xs:List Str}{st:Stmt}(h:zbX st=some (x,xs))(hN:X.N.Nodup)(hi:X.N[i]?=some x)(hx:Loc X.env.scope x)(hf:X.fn x=true\/X.env.scope.names.lookup x=some .local):PS X st (zku (zj2 xs) (XQ i)):=by
 obtain⟨p,es,q,r,rfl,hs⟩:=zbY h
 exact RB hN hi hx (ziQ hs) rfl hf
end
end L2
set_option exponentiation.threshold 20000
namespace uU
open PySem L2
section
variable {K:Frag}
theorem zc9 {a k:Nat}(h:a<2^k)(hk:k<=10000):a<2^10000:=zrB h (zrY (by decide) hk)
theorem zgi {n:Nat}(hn:n<=8):2^n<=256:=zrY (n:=2) (by decide) hn
inductive wR (vs:List V)(H:Hp)(Q:VK)(E9:XK):Prop
 | mk (n:Nat) (_:vs=[.int n]) (_:n<=8) (_:Q (.int ((2^2^n-1:Nat):Int)) H):wR vs H Q E9
inductive wJ (vs:List V)(H:Hp)(Q:VK)(E9:XK):Prop
 | mk (p n:Nat) (_:vs=[.int p,.int n]) (_:p<n) (_:n<=8) (_:∀R:Nat,zN n R (fun b=>b.testBit p)->Q (.int R) H):wJ vs H Q E9
inductive Y7 (vs:List V)(H:Hp)(Q:VK)(E9:XK):Prop
 | mk (N p n:Nat) (f:Nat->Bool) (_:vs=[.int N,.int p,.int n]) (_:p<n) (_:n<=8) (_:zN n N f) (_:∀R:Nat,zN n R (fun b=>f (zE b p (!b.testBit p)))->Q (.int R) H):Y7 vs H Q E9
def vU:List Bool->Nat
 | []=>0
 | b::r=>b.toNat+2*vU r
theorem JF:∀r:List Bool,vU r<2^r.length
 | []=>by decide
 | b::r=>by
  have:=JF r
  show b.toNat+2*vU r<2^(r.length+1)
  rw[Nat.pow_succ]
  cases b<;>simp<;>omega
theorem Lw:∀(r:List Bool) (i:Nat),(vU r).testBit i=(r[i]?).getD false
 | [],i=>by simp[vU]
 | b::r,0=>by
  show(b.toNat+2*vU r).testBit 0=b
  rw[Nat.testBit_zero]
  cases b<;>simp<;>omega
 | b::r,i+1=>by
  show(b.toNat+2*vU r).testBit (i+1)=(r[i]?).getD false
  rw[Nat.testBit_succ,<-Lw r i]
  have:(b.toNat+2*vU r) / 2=vU r:=by cases b<;>simp<;>omega
  rw[this]
abbrev Uo (r:List Bool):List V:=r.map fun b=>V.int (b.toNat:Nat)
theorem QL {H:Hp}{p:Addr}(h:H p=none)(o:HO):Same H (upd H p o):=fun b u q=>by rw[zB (zy q h)];exact q
inductive QM (K:Frag)(vs:List V)(H:Hp)(Q:VK)(E9:XK):Prop
 | mk (l:Addr) (ns:List Int) (i:Int) (_:vs=[.ref l,.int i]) (_:zX K H l (ns.map V.int)) (_:0<=i) (_:∀v:Int,Q (.int v) H):QM K vs H Q E9
inductive Mj (vs:List V)(H:Hp)(Q:VK)(E9:XK):Prop
 | mk (c:Int) (k:Nat) (b:Int) (_:vs=[.int c,.int k,.int b]) (_:k<=40) (_:0<b) (_:b<1073741824) (_:∀r:Int,0<=r->r<b->Q (.int r) H):Mj vs H Q E9
def vV:List Str:=["a", "b", "c", "d", "e", "f", "g", "h"]
structure QS (os:List Str):Prop where
 nd:os.Nodup
 mem:∀x∈os,x∈vV
 pos:0<os.length
theorem QT {α:Type}[DecidableEq α]:∀{xs ys:List α},xs.Nodup->(∀x∈xs,x∈ys)->xs.length<=ys.length
 | [],_,_,_=>zrP _
 | x::xs,ys,nd,h=>by
  obtain⟨h1,h2⟩:=List.nodup_cons.mp nd
  have hx:=h x zrM
  have ih:=QT (xs:=xs) (ys:=ys.erase x) h2 fun y hy=>(List.mem_erase_of_ne (fun e:y=x=>h1 (by rw[<-e];exact hy))).mpr (h y (zrD _ hy))
  rw[List.length_erase_of_mem hx] at ih
  have:=List.length_pos_of_mem hx
  rw[zrE]
  omega
theorem ziS {i:Nat}(h:i<8):∃c,atI (Str.ofString "abcdefgh").cps.toList (i:Int)=some c/\vV[i]?=some ⟨#[c]⟩:=by
 match i,h with
 | 0,_=>exact⟨97,by decide +kernel,by decide +kernel⟩
 | 1,_=>exact⟨98,by decide +kernel,by decide +kernel⟩
 | 2,_=>exact⟨99,by decide +kernel,by decide +kernel⟩
 | 3,_=>exact⟨100,by decide +kernel,by decide +kernel⟩
 | 4,_=>exact⟨101,by decide +kernel,by decide +kernel⟩
 | 5,_=>exact⟨102,by decide +kernel,by decide +kernel⟩
 | 6,_=>exact⟨103,by decide +kernel,by decide +kernel⟩
 | 7,_=>exact⟨104,by decide +kernel,by decide +kernel⟩
theorem zda:vV.Nodup:=by decide +kernel
theorem zhl {i:Nat}{y:Str}(h:vV[i]?=some y):y∉vV.take i:=fun hm=>by
 obtain⟨j,hj⟩:=List.getElem?_of_mem hm
 have hlt:j<i:=by
  have:=(zrv.mp hj).1
  rw[zrQ] at this
  omega
 rw[List.getElem?_take_of_lt hlt] at hj
 have h1:=(zrv.mp hj)
 have h2:=(zrv.mp h)
 obtain⟨l1,e1⟩:=h1
 obtain⟨l2,e2⟩:=h2
 have:=(List.getElem_inj zda).mp (e1.trans e2.symm)
 omega
theorem QS.le {os:List Str}(h:QS os):os.length<=8:=QT h.nd h.mem
inductive zbZ (vs:List V)(H:Hp)(Q:VK)(E9:XK):Prop
 | mk (c:Int) (n:Nat) (_:vs=[.int c,.int n]) (_:0<n) (_:n<=8) (_:∀(l:Addr) (H':Hp) (os:List Str),Same H H'->H' l=some (.lst (os.map V.str))->QS os->os.length<=n->Q (.ref l) H'):zbZ vs H Q E9
def Ra (H:Hp):Sn->Addr->Prop
 | .c0 y,p=>H p=some (.tup [.str (Sn.word (.c0 y))])
 | .mk x,p=>H p=some (.tup [.str "mark", .str x])
 | .nt s,p=>∃q,H p=some (.tup [.str "not", .ref q])/\Ra H s q
 | .b2 o s t,p=>∃q r,H p=some (.tup [.str (w2 o),.ref q,.ref r])/\Ra H s q/\Ra H t r
 | .q1 o x s,p=>∃q,H p=some (.tup [.str (if o then "some" else "each"),.str x,.ref q])/\Ra H s q
def yH (H H':Hp):Prop:=∀b xs,H b=some (.tup xs)->H' b=some (.tup xs)
theorem yH.trans {H H1 H2:Hp}(a:yH H H1)(b:yH H1 H2):yH H H2:=fun c o h=>b c o (a c o h)
theorem yH.of {H H':Hp}(g:Same H H'):yH H H':=fun b xs h=>g b _ h
theorem yH.new {H:Hp}{p:Addr}(h:H p=none)(o:HO):yH H (upd H p o):=fun b u q=>by rw[zB (zy q h)];exact q
theorem yH.lst {H:Hp}{p:Addr}{xs:List V}(h:H p=some (.lst xs))(o:HO):yH H (upd H p o):=fun b u q=>by rw[zB (Us q h (fun z=>nomatch z))];exact q
theorem Ra.mono {H H':Hp}(g:yH H H'):∀{s:Sn} {p:Addr},Ra H s p->Ra H' s p
 | .c0 y,p,h=>g _ _ h
 | .mk x,p,h=>g _ _ h
 | .nt s,p,⟨q,h,k⟩=>⟨q,g _ _ h,k.mono g⟩
 | .b2 o s t,p,⟨q,r,h,k,l⟩=>⟨q,r,g _ _ h,k.mono g,l.mono g⟩
 | .q1 o x s,p,⟨q,h,k⟩=>⟨q,g _ _ h,k.mono g⟩
theorem ziT (o:Bool)(x:Str)(s:Sn):Sn.word (.q1 o x s)=if o then Str.ofString "some" else Str.ofString "each" := by cases o<;>rfl
theorem Ra.shape {H:Hp}:∀{s:Sn} {p:Addr},Ra H s p->∃qs:List Addr,H p=some (.tup (.str s.word::(s.letters.map V.str++qs.map V.ref)))/\Paired (Ra H) s.parts qs
 | .c0 y,p,h=>⟨[],h,.nil⟩
 | .mk x,p,h=>⟨[],h,.nil⟩
 | .nt s,p,⟨q,h,k⟩=>⟨[q],h,.cons k .nil⟩
 | .b2 o s t,p,⟨q,r,h,k,l⟩=>⟨[q,r],h,.cons k (.cons l .nil)⟩
 | .q1 o x s,p,⟨q,h,k⟩=>⟨[q],by rw[ziT];exact h,.cons k .nil⟩
theorem zb0 {α:Type}{xs:List α}{i:Int}(h0:-(xs.length:Int)<=i)(h1:i<xs.length):∃(j:Nat) (v:α),atI xs i=some v/\xs[j]?=some v:=by
 by_cases h:0<=i
 ·have hj:i.toNat<xs.length:=by omega
  have q:=vq (xs:=xs) (j:=i.toNat) (zrt hj)
  have e:((i.toNat:Nat):Int)=i:=by omega
  rw[e] at q
  exact⟨_,_,q,zrt hj⟩
 ·have hj:(i+xs.length).toNat<xs.length:=by omega
  refine⟨_,_,?_,zrt hj⟩
  unfold atI ixN
  rw[if_neg h,if_pos h0]
  show xs[(i+xs.length).toNat]?=_
  exact zrt hj
def RL:List Str:=["mark", "mark", "not", "and", "or", "either", "if", "and", "or", "some", "each", "yes", "no", "mark"]
structure Made (H0 H:Hp)(os:List Str)(m kd:Addr)(ps:List Addr)(d:Nat):Prop where
 old:Same H0 H
 mad:H m=some (.lst (ps.map V.ref))
 kin:H kd=some (.lst (RL.map V.str))
 ne:ps≠[]
 all:∀p∈ps,∃s,Ra H s p/\s.QK os/\s.depth<=d
theorem Made.push {H0 H:Hp}{os:List Str}{m kd p:Addr}{ps:List Addr}{d:Nat}{xs:List V}(M:Made H0 H os m kd ps d)(fm:H0 m=none)(hp:H p=none){s:Sn}(hs:Ra (upd H p (.tup xs)) s p)(ho:s.QK os)(hd:s.depth<=d+1)(hk:m≠kd) :
  Made H0 (upd (upd H p (.tup xs)) m (.lst ((ps++[p]).map V.ref))) os m kd (ps++[p]) (d+1):=by
 have hm:m≠p:=zy M.mad hp
 have hkp:kd≠p:=zy M.kin hp
 have mad':(upd H p (.tup xs)) m=some (.lst (ps.map V.ref)):=by rw[zB hm];exact M.mad
 have t1:yH H (upd H p (.tup xs)):=yH.new hp _
 have t2:yH (upd H p (.tup xs)) (upd (upd H p (.tup xs)) m (.lst ((ps++[p]).map V.ref))):=yH.lst mad' _
 refine⟨fun b o h=>?_,zj,?_,by simp,fun q hq=>?_⟩
 ·have h1:=M.old b o h
  rw[zB (zy h fm),zB (zy h1 hp)]
  exact h1
 ·rw[zB (Ne.symm hk),zB hkp];exact M.kin
 ·rcases List.mem_append.mp hq with z | z
  ·obtain⟨s',q1,q2,q3⟩:=M.all q z
   exact⟨s',(q1.mono t1).mono t2,q2,by omega⟩
  ·have z':q=p:=by simpa using z
   subst z'
   exact⟨s,hs.mono t2,ho,hd⟩
inductive RM (K:Frag)(vs:List V)(H:Hp)(Q:VK)(E9:XK):Prop
 | mk (sc ol:Addr) (ns:List Int) (t m:Nat) (os:List Str) (_:vs=[.ref sc,.int t,.int m,.ref ol]) (_:zX K H sc (ns.map V.int)) (_:zX K H ol (os.map V.str)) (_:0<os.length) (_:os.length<=8) (_:0<m) (_:m<=40) (_:t<=60) (_:∀(p:Addr) (H':Hp) (s:Sn),Same H H'->Ra H' s p->s.QK os->s.depth<=m->Q (.ref p) H'):RM K vs H Q E9
theorem Ly {os:List Str}(h0:0<os.length)(r:Int):∃x,x∈os/\atI (os.map V.str) (r%((os.map V.str).length:Nat))=some (.str x):=by
 have e:(os.map V.str).length=os.length:=zrs _
 have m0:0<=r%((os.map V.str).length:Nat):=zsa _ (by omega)
 have m1:r%((os.map V.str).length:Nat)<((os.map V.str).length:Nat):=zr7 _ (by omega)
 obtain⟨j,v,q1,q2⟩:=zb0 (xs:=os.map V.str) (i:=r%((os.map V.str).length:Nat)) (by omega) m1
 rw[zru] at q2
 cases hx:os[j]? with
 | none=>rw[hx] at q2;cases q2
 | some x =>
  rw[hx] at q2
  cases q2
  exact⟨x,zrx hx,q1⟩
theorem Ml {ps:List Addr}{i:Int}(h0:-(ps.length:Int)<=i)(h1:i<ps.length):∃p,p∈ps/\atI (ps.map V.ref) i=some (.ref p):=by
 have e:(ps.map V.ref).length=ps.length:=zrs _
 obtain⟨j,v,q1,q2⟩:=zb0 (xs:=ps.map V.ref) (i:=i) (by omega) (by omega)
 rw[zru] at q2
 cases hx:ps[j]? with
 | none=>rw[hx] at q2;cases q2
 | some x =>
  rw[hx] at q2
  cases q2
  exact⟨x,zrx hx,q1⟩
end
end uU
namespace L2
open PySem
section
variable {α β:Type}{R S:α->β->Prop}
theorem Mp:∀{xs ys:List α} {us ws:List β},Paired R xs us->Paired R ys ws->Paired R (xs++ys) (us++ws)
 | _,_,_,_,.nil,s=>s
 | _,_,_,_,.cons r t,s=>.cons r (Mp t s)
theorem Wu (f:∀a b,R a b->S a b):∀{xs:List α} {us:List β},Paired R xs us->Paired S xs us
 | _,_,.nil=>.nil
 | _,_,.cons r t=>.cons (f _ _ r) (Wu f t)
theorem Zg:∀{xs:List α} {us:List β},Paired R xs us->xs.length=us.length
 | _,_,.nil=>rfl
 | _,_,.cons _ t=>by rw[zrE,zrE,Zg t]
theorem zfu:∀{xs:List α} {us:List β} {i:Nat} {x:α},Paired R xs us->xs[i]?=some x->∃u,us[i]?=some u/\R x u
 | _,_,_,_,.nil,e=>by simp at e
 | _,_,0,_,.cons r _,e=>by simp at e;subst e;exact⟨_,rfl,r⟩
 | _,_,i+1,x,.cons _ t,e=>by
  obtain⟨u,h1,h2⟩:=zfu (i:=i) (x:=x) t (by simpa using e)
  exact⟨u,by simpa using h1,h2⟩
theorem QV:∀{xs:List α} {us:List β} {i:Nat} {u:β},Paired R xs us->us[i]?=some u->∃x,xs[i]?=some x/\R x u
 | _,_,_,_,.nil,e=>by simp at e
 | _,_,0,_,.cons r _,e=>by simp at e;subst e;exact⟨_,rfl,r⟩
 | _,_,i+1,x,.cons _ t,e=>by
  obtain⟨u,h1,h2⟩:=QV (i:=i) (u:=x) t (by simpa using e)
  exact⟨u,by simpa using h1,h2⟩
theorem zZ {α:Type}{xs:List α}{i:Nat}{x:α}(h:xs[i]?=some x):xs.take (i+1)=xs.take i++[x]:=by
 rw[List.take_succ,h]
 rfl
theorem Same.zkT {K:Frag}{H H':Hp}{a:Addr}{xs:List V}(e:Same H H')(h:vp K H a xs):vp K H' a xs:=by
 rcases h with (h | ⟨o,h⟩) | h
 ·exact .inl (.inl (e _ _ h))
 ·exact .inl (.inr ⟨o,e _ _ h⟩)
 ·exact .inr h
theorem Same.new {H:Hp}{p:Addr}(h:H p=none)(o:HO):Same H (upd H p o):=fun b u q=>by rw[zB (zy q h)];exact q
theorem Same.over {H H':Hp}{p:Addr}(g:Same H H')(h:H p=none)(o:HO):Same H (upd H' p o):=fun b u q=>by rw[zB (zy q h)];exact g b u q
theorem at0 {α:Type}{x:α}{xs:List α}:atI (x::xs) 0=some x:=vq (j:=0) rfl
theorem at1 {α:Type}{x y:α}{xs:List α}:atI (x::y::xs) 1=some y:=vq (j:=1) rfl
end
section
variable {K:Frag}{a:Addr}{xs:List V}{σ:St}{js:List Nat}{te:TE}{H:Hp}{Qf:Addr->Hp->List V->Prop}
theorem zfv (R:V->V->Prop)(hq:zX K H a xs)(hz:xs.length<=sizeLine)
  (hs:∀(i:Nat) x H',xs[i]?=some x->Same H H'->te (Yg σ js (some x)) H' fun v H3=>R x v/\Same H H3)
  (me:∀ σ H Q Q',(∀v H1,Q v H1->Q' v H1)->te σ H Q->te σ H Q')
  (hd:∀ys H' p,Paired R xs ys->Same H H'->H' p=none->Qf p H' ys) :
  ∃W:Nat->Nat->List V->Hp->Prop,(∃m,W 0 m [] H)/\∀i m ys H,W i m ys H ->
   ((Itl K a).stop i H/\∀p,H p=none->Qf p H ys) \/
   ((Itl K a).go i H/\ys.length<sizeLine/\∀x H',(Itl K a).Qs i H x H'->Vx (Yg σ js (some x)) H' fun b H2 =>
    if b=true then te (Yg σ js (some x)) H2 fun v H3=>∃m',m'<m/\W (i+1) m' (ys++[v]) H3 else ∃m',m'<m/\W (i+1) m' ys H2):=by
 refine ziG (fun i ys H'=>Same H H'/\Paired R (xs.take i) ys) ⟨Same.refl _,.nil⟩ hz ?_ ?_ (fun _ _ _ _ h q=>h _ _ q) me ?_
 ·rintro i ys H' hi ⟨g,r⟩
  have:=Zg r
  rw[zrQ] at this
  exact⟨g.seq hq,by omega⟩
 ·rintro i x ys H' hx ⟨g,r⟩
  show te (Yg σ js (some x)) H' fun v H3=>Same H H3/\Paired R (xs.take (i+1)) (ys++[v])
  refine me _ _ _ _ (fun v H3 h3=>⟨h3.2,?_⟩) (hs i x H' hx g)
  rw[zZ hx]
  exact Mp r (.cons h3.1 .nil)
 ·rintro ys H' p ⟨g,r⟩ hp
  rw[zrV] at r
  exact hd ys H' p r g hp
theorem zfw (R:V->V->Prop)(hq:vp K H a xs)(hz:xs.length<=sizeLine)
  (hs:∀(i:Nat) x H',xs[i]?=some x->Same H H'->te (Yg σ js (some x)) H' fun v H3=>R x v/\Same H H3)
  (me:∀ σ H Q Q',(∀v H1,Q v H1->Q' v H1)->te σ H Q->te σ H Q')
  (hd:∀ys H' p,Paired R xs ys->Same H H'->H' p=none->Qf p H' ys) :
  ∃W:Nat->Nat->List V->Hp->Prop,(∃m,W 0 m [] H)/\∀i m ys H,W i m ys H ->
   ((Itt K a).stop i H/\∀p,H p=none->Qf p H ys) \/
   ((Itt K a).go i H/\ys.length<sizeLine/\∀x H',(Itt K a).Qs i H x H'->Vx (Yg σ js (some x)) H' fun b H2 =>
    if b=true then te (Yg σ js (some x)) H2 fun v H3=>∃m',m'<m/\W (i+1) m' (ys++[v]) H3 else ∃m',m'<m/\W (i+1) m' ys H2):=by
 refine zg7 (fun i ys H'=>Same H H'/\Paired R (xs.take i) ys) ⟨Same.refl _,.nil⟩ hz ?_ ?_ (fun _ _ _ _ h q=>h _ _ q) me ?_
 ·rintro i ys H' hi ⟨g,r⟩
  have:=Zg r
  rw[zrQ] at this
  exact⟨g.zkT hq,by omega⟩
 ·rintro i x ys H' hx ⟨g,r⟩
  show te (Yg σ js (some x)) H' fun v H3=>Same H H3/\Paired R (xs.take (i+1)) (ys++[v])
  refine me _ _ _ _ (fun v H3 h3=>⟨h3.2,?_⟩) (hs i x H' hx g)
  rw[zZ hx]
  exact Mp r (.cons h3.1 .nil)
 ·rintro ys H' p ⟨g,r⟩ hp
  rw[zrV] at r
  exact hd ys H' p r g hp
theorem JG {f:V->V}:∀{xs ys:List V},Paired (fun x v=>v=f x) xs ys->ys=xs.map f
 | _,_,.nil=>rfl
 | _,_,.cons r t=>by rw[zrR,r,JG t]
end
section
variable {X:Cx}{K:Frag}{a:Expr}{ta:TE}
theorem zkU (h:X.K=K):Uq X (compareOp .In) (rIn K false):=by subst h;exact Mf
theorem zbg (h:X.K=K):Uq X (compareOp .NotIn) (rIn K true):=by subst h;exact QG
theorem zb1 (h:X.K=K):YF X (.builtin "isinstance") (fun xs H Q=>∃x T t b,xs=[x,.ty T]/\Qy K H x t/\PySem.W.kitOne K t (.type T)=some b/\Q (.bl b) H):=by subst h;exact Lq
theorem zdb (h:X.K=K):IxR X (zl2 K):=by subst h;exact yw
theorem zaF (h:X.K=K):YF X (.builtin "len") (fun xs H Q=>∃p ys,xs=[.ref p]/\(zX K H p ys\/vp K H p ys)/\Q (.int ys.length) H):=by subst h;exact zK
def JH (sp:Sp):Prop:=∀vs H Q Q' E,(∀v H1,Q v H1->Q' v H1)->sp vs H Q E->sp vs H Q' E
theorem zhm {sp:Sp}(m:JH sp):∀ σ H Q Q',(∀v H1,Q v H1->Q' v H1)->Jt sp [] E0 (Qz (Jk 0) zc1) σ H Q->Jt sp [] E0 (Qz (Jk 0) zc1) σ H Q' :=
 fun σ H Q Q' h ⟨v,e,q⟩=>⟨v,e,m _ _ _ _ _ h q⟩
theorem zdc (x:Str)(ts:List Str):inV (.str x) (ts.map V.str)=decide (x∈ts):=by
 induction ts with
 | nil=>rfl
 | cons t r ih =>
  have e:inV (.str x) ((t::r).map V.str)=((t==x)||inV (.str x) (r.map V.str)):=rfl
  rw[e,ih]
  by_cases h:t=x
  ·subst h;simp
  ·have h':¬x=t:=fun z=>h z.symm
   simp[h,h']
theorem W4 (ts:List Str):(ts.map V.str).all wD=true:=by
 rw[List.all_map,zrW]
 exact fun _ _=>rfl
theorem zhn {w:V}{rest:List V}{m n:Nat}(h:rest.length=m+n):zaA (w::rest) (some 1) (some (1+(m:Int)))=rest.take m:=by
 have e1:HT.Zf (w::rest).length 0 (some 1)=min 1 (w::rest).length:=HT.K8 _ _ 1
 have e2:HT.Zf (w::rest).length (w::rest).length (some (1+(m:Int)))=min (1+m) (w::rest).length:=by
  have z:(1:Int)+(m:Int)=((1+m:Nat):Int):=by omega
  rw[z];exact HT.K8 _ _ _
 have l:(w::rest).length=m+n+1:=by rw[zrE,h]
 unfold zaA
 rw[e1,e2,l,Nat.min_eq_left (by omega),Nat.min_eq_left (by omega),List.drop_one,List.tail_cons]
 congr 1
 omega
theorem zho {w:V}{rest:List V}{m n:Nat}(h:rest.length=m+n):zaA (w::rest) (some (1+(m:Int))) none=rest.drop m:=by
 have e2:HT.Zf (w::rest).length 0 (some (1+(m:Int)))=min (1+m) (w::rest).length:=by
  have z:(1:Int)+(m:Int)=((1+m:Nat):Int):=by omega
  rw[z];exact HT.K8 _ _ _
 have l:(w::rest).length=m+n+1:=by rw[zrE,h]
 unfold zaA
 rw[e2,HT.zgY,l,Nat.min_eq_left (by omega),Nat.add_comm 1 m,List.drop_succ_cons,List.take_of_length_le]
 rw[List.length_drop,h]
 omega
theorem JK {w:V}{rest:List V}{i:Int}{o:Option Int}(h:1<=i):¬(HT.Zf (w::rest).length 0 (some i)=0/\HT.Zf (w::rest).length (w::rest).length o=(w::rest).length):=by
 rintro⟨h1,_⟩
 have e:HT.Zf (w::rest).length 0 (some i)=min i.toNat (w::rest).length:=by
  have z:=HT.K8 (w::rest).length 0 i.toNat
  have z2:((i.toNat:Nat):Int)=i:=by omega
  rw[z2] at z
  exact z
 rw[e,zrE] at h1
 omega
end
end L2
namespace uU
open PySem L2
section
variable {K:Frag}
def Sn.all:Sn->List Str
 | .c0 _=>[]
 | .mk x=>[x]
 | .nt s=>s.all
 | .b2 _ s t=>s.all++t.all
 | .q1 _ x s=>x::s.all
theorem Sn.zb2:∀(s:Sn) (x:Str),x∈s.all↔x∈s.letters\/∃t∈s.parts,x∈t.all
 | .c0 _,x=>by simp[Sn.all,Sn.letters,Sn.parts]
 | .mk y,x=>by simp[Sn.all,Sn.letters,Sn.parts]
 | .nt s,x=>by simp[Sn.all,Sn.letters,Sn.parts]
 | .b2 _ s t,x=>by simp[Sn.all,Sn.letters,Sn.parts]
 | .q1 _ y s,x=>by simp[Sn.all,Sn.letters,Sn.parts]
theorem Sn.VB {os:List Str}:∀(s:Sn),s.QK os↔∀x∈s.all,x∈os
 | .c0 _=>by simp[Sn.all,Sn.QK]
 | .mk y=>by simp[Sn.all,Sn.QK]
 | .nt s=>by simp only[Sn.all,Sn.QK];exact Sn.VB s
 | .b2 _ s t=>by
  simp only[Sn.all,Sn.QK,List.mem_append]
  rw[Sn.VB s,Sn.VB t]
  exact⟨fun h x hx=>hx.elim (h.1 x) (h.2 x),fun h=>⟨fun x hx=>h x (.inl hx),fun x hx=>h x (.inr hx)⟩⟩
 | .q1 _ y s=>by
  simp only[Sn.all,Sn.QK,List.mem_cons]
  rw[Sn.VB s]
  exact⟨fun h x hx=>hx.elim (fun e=>by rw[e];exact h.1) (h.2 x),fun h=>⟨h y (.inl rfl),fun x hx=>h x (.inr hx)⟩⟩
theorem Sn.QW:∀s:Sn,s.parts.length<=2
 | .c0 _=>by simp[Sn.parts]
 | .mk _=>by simp[Sn.parts]
 | .nt _=>by simp[Sn.parts]
 | .b2 _ _ _=>by simp[Sn.parts]
 | .q1 _ _ _=>by simp[Sn.parts]
theorem Sn.JL:∀s:Sn,s.letters.length<=1
 | .c0 _=>by simp[Sn.letters]
 | .mk _=>by simp[Sn.letters]
 | .nt _=>by simp[Sn.letters]
 | .b2 _ _ _=>by simp[Sn.letters]
 | .q1 _ _ _=>by simp[Sn.letters]
def cnt (ss:List Sn):Nat:=(ss.map Sn.count).sum
theorem cnt_cons (s:Sn)(ss:List Sn):cnt (s::ss)=s.count+cnt ss:=rfl
theorem ziU (ss ts:List Sn):cnt (ss++ts)=cnt ss+cnt ts:=by
 unfold cnt;rw[zrG,List.sum_append]
theorem Sq:∀ss:List Sn,cnt ss=ss.length+cnt (ss.flatMap Sn.parts)
 | []=>rfl
 | s::ss=>by
  rw[cnt_cons,List.flatMap_cons,ziU,Sq ss,Sn.Ls s,zrE]
  show 1+cnt s.parts+_=_
  omega
theorem zfx (ss:List Sn):ss.length<=cnt ss:=by rw[Sq];omega
theorem Mq {ss:List Sn}{t:Sn}:t∈ss.flatMap Sn.parts↔∃s∈ss,t∈s.parts:=List.mem_flatMap
inductive W5 (vs:List V)(H:Hp)(Q:VK)(E9:XK):Prop
 | mk (x:Str) (_:vs=[.str x]) (_:Q (.bl (decide (x∈vV))) H):W5 vs H Q E9
theorem Lz:JH W5:=fun vs H Q Q' E h ⟨x,e,q⟩=>⟨x,e,h _ _ q⟩
def zb3 (os:List Str):Bool:=decide (0<os.length)&&(os.all (fun x=>decide (x∈vV))&&decide os.Nodup)
theorem ziV {os:List Str}(h:QS os):zb3 os=true:=by
 unfold zb3
 rw[decide_eq_true h.pos,decide_eq_true h.nd,zrW.mpr fun x hx=>decide_eq_true (h.mem x hx)]
 rfl
inductive Mr (K:Frag)(vs:List V)(H:Hp)(Q:VK)(E9:XK):Prop
 | mk (l:Addr) (os:List Str) (_:vs=[.ref l]) (_:zX K H l (os.map V.str)) (_:os.length<=100) (_:∀H',Same H H'->Q (.bl (zb3 os)) H'):Mr K vs H Q E9
def xH:List (Str×Int×Int):=[("yes", 0,0),("no", 0,0),("mark", 1,0),("not", 0,1),("and", 0,2),("or", 0,2),("either", 0,2),("if", 0,2),("some", 1,1),("each", 1,1)]
theorem Zh (s:Sn):(s.word,((s.letters.length:Nat):Int),((s.parts.length:Nat):Int))∈xH:=by
 cases s with
 | c0 y =>
  cases y
  ·show((Str.ofString "no", (0:Int),(0:Int)):Str×Int×Int)∈xH
   decide +kernel
  ·show((Str.ofString "yes", (0:Int),(0:Int)):Str×Int×Int)∈xH
   decide +kernel
 | mk x =>
  show((Str.ofString "mark", (1:Int),(0:Int)):Str×Int×Int)∈xH
  decide +kernel
 | nt s =>
  show((Str.ofString "not", (0:Int),(1:Int)):Str×Int×Int)∈xH
  decide +kernel
 | b2 o s t =>
  show((w2 o,(0:Int),(2:Int)):Str×Int×Int)∈xH
  revert o
  decide +kernel
 | q1 o x s =>
  cases o
  ·show((Str.ofString "each", (1:Int),(1:Int)):Str×Int×Int)∈xH
   decide +kernel
  ·show((Str.ofString "some", (1:Int),(1:Int)):Str×Int×Int)∈xH
   decide +kernel
inductive Yu (vs:List V)(H:Hp)(Q:VK)(E9:XK):Prop
 | mk (p:Addr) (x:Str) (m n:Nat) (rest:List V) (_:vs=[.ref p]) (_:H p=some (.tup (.str x::rest))) (_:(x,(m:Int),(n:Int))∈xH) (_:rest.length=m+n) (_:∀q,H q=none->Q (.ref q) (upd H q (.tup (rest.take m)))):Yu vs H Q E9
inductive ZV (vs:List V)(H:Hp)(Q:VK)(E9:XK):Prop
 | mk (p:Addr) (x:Str) (m n:Nat) (rest:List V) (_:vs=[.ref p]) (_:H p=some (.tup (.str x::rest))) (_:(x,(m:Int),(n:Int))∈xH) (_:rest.length=m+n) (_:∀q,H q=none->Q (.ref q) (upd H q (.tup (rest.drop m)))):ZV vs H Q E9
theorem QX {H:Hp}{s:Sn}{p:Addr}(h:Ra H s p):∃qs:List Addr,H p=some (.tup (.str s.word::(s.letters.map V.str++qs.map V.ref)))/\Paired (Ra H) s.parts qs /\
  (s.letters.map V.str++qs.map V.ref).length=s.letters.length+s.parts.length/\(s.letters.map V.str++qs.map V.ref).take s.letters.length=s.letters.map V.str/\(s.letters.map V.str++qs.map V.ref).drop s.letters.length=qs.map V.ref:=by
 obtain⟨qs,h1,h2⟩:=h.shape
 have l:=Zg h2
 refine⟨qs,h1,h2,by simp[l],?_,?_⟩
 ·rw[List.take_append_of_le_length (by simp),List.take_of_length_le (by simp)]
 ·rw[List.drop_append_of_le_length (by simp),List.drop_of_length_le (by simp)]
  rfl
inductive YM (K:Frag)(vs:List V)(H:Hp)(Q:VK)(E9:XK):Prop
 | mk (l:Addr) (ss:List Sn) (ps:List Addr) (_:vs=[.ref l]) (_:zX K H l (ps.map V.ref)) (_:Paired (Ra H) ss ps) (_:ss.length<=400) (_:∀(l':Addr) (H':Hp) (ps':List Addr),Same H H'->H l'=none->H' l'=some (.lst (ps'.map V.ref))->Paired (Ra H') (ss.flatMap Sn.parts) ps'->Q (.ref l') H'):YM K vs H Q E9
inductive QZ (vs:List V)(H:Hp)(Q:VK)(E9:XK):Prop
 | mk (p:Addr) (s:Sn) (_:vs=[.ref p]) (_:Ra H s p) (_:(∀x∈s.letters,x∈vV)) (_:∀H',Same H H'->Q (.bl true) H'):QZ vs H Q E9
theorem zdd:JH QZ:=fun vs H Q Q' E h ⟨p,s,e,h1,h2,q⟩=>⟨p,s,e,h1,h2,fun H' g=>h _ _ (q H' g)⟩
abbrev VC (sn:Sn)(zs:List Addr):List V:=V.str sn.word::(sn.letters.map V.str++zs.map V.ref)
inductive zb4 (vs:List V)(H:Hp)(Q:VK)(E9:XK):Prop
 | mk (p:Addr) (s:Sn) (_:vs=[.ref p]) (_:Ra H s p) (_:s.QK vV) (_:s.count<=200) (_:s.depth<=24) (_:∀H',Same H H'->Q (.bl true) H'):zb4 vs H Q E9
inductive UJ (K:Frag)(vs:List V)(H:Hp)(Q:VK)(E9:XK):Prop
 | mk (l:Addr) (os:List Str) (_:vs=[.ref l]) (_:zX K H l (os.map V.str)) (_:QS os) (_:∀H',Same H H'->Q .non H'):UJ K vs H Q E9
inductive Ms (vs:List V)(H:Hp)(Q:VK)(E9:XK):Prop
 | mk (p:Addr) (s:Sn) (_:vs=[.ref p]) (_:Ra H s p) (_:s.QK vV) (_:s.count<=200) (_:s.depth<=24) (_:∀H',Same H H'->Q .non H'):Ms vs H Q E9
inductive RP (vs:List V)(H:Hp)(Q:VK)(E9:XK):Prop
 | mk (p:Addr) (s:Sn) (_:vs=[.ref p]) (_:Ra H s p) (_:s.count<=400) (_:∀(l:Addr) (H':Hp) (ts:List Sn) (ps:List Addr),Same H H'->H l=none->H' l=some (.lst (ps.map V.ref))->Paired (Ra H') ts ps->ts.length=s.count->(∀x,(∃t∈ts,x∈t.letters)↔x∈s.all)->Q (.ref l) H'):RP vs H Q E9
inductive UL (vs:List V)(H:Hp)(Q:VK)(E9:XK):Prop
 | mk (p:Addr) (s:Sn) (_:vs=[.ref p]) (_:Ra H s p) (_:s.count<=400) (_:∀(l:Addr) (H':Hp) (xs:List Str),Same H H'->H l=none->H' l=some (.lst (xs.map V.str))->(∀x,x∈xs↔x∈s.all)->xs.length<=400->Q (.ref l) H'):UL vs H Q E9
inductive VD (K:Frag)(vs:List V)(H:Hp)(Q:VK)(E9:XK):Prop
 | mk (l:Addr) (x:Str) (os:List Str) (_:vs=[.ref l,.str x]) (_:zX K H l (os.map V.str)) (_:x∈os) (_:Q .non H):VD K vs H Q E9
inductive UW (K:Frag)(vs:List V)(H:Hp)(Q:VK)(E9:XK):Prop
 | mk (l p:Addr) (os:List Str) (s:Sn) (_:vs=[.ref l,.ref p]) (_:zX K H l (os.map V.str)) (_:Ra H s p) (_:s.count<=400) (_:s.QK os) (_:∀H',Same H H'->Q .non H'):UW K vs H Q E9
end
end uU
namespace L2
open PySem
section
variable {K:Frag}{a:Addr}{xs:List V}{σ:St}{js:List Nat}{te:TE}{H:Hp}{Qf:Addr->Hp->List V->Prop}
theorem ziW (R:Nat->V->Prop)(hq:vp K H a xs)(hz:xs.length<=sizeLine)
  (hs:∀(i:Nat) x H',xs[i]?=some x->Same H H'->te (Yg σ js (some x)) H' fun v H3=>R i v/\Same H H3)
  (me:∀ σ H Q Q',(∀v H1,Q v H1->Q' v H1)->te σ H Q->te σ H Q')
  (hd:∀ys H' p,ys.length=xs.length->(∀(j:Nat) v,ys[j]?=some v->R j v)->Same H H'->H' p=none->Qf p H' ys) :
  ∃W:Nat->Nat->List V->Hp->Prop,(∃m,W 0 m [] H)/\∀i m ys H,W i m ys H ->
   ((Itt K a).stop i H/\∀p,H p=none->Qf p H ys) \/
   ((Itt K a).go i H/\ys.length<sizeLine/\∀x H',(Itt K a).Qs i H x H'->Vx (Yg σ js (some x)) H' fun b H2 =>
    if b=true then te (Yg σ js (some x)) H2 fun v H3=>∃m',m'<m/\W (i+1) m' (ys++[v]) H3 else ∃m',m'<m/\W (i+1) m' ys H2):=by
 refine zg7 (fun i ys H'=>Same H H'/\ys.length=i/\∀(j:Nat) v,ys[j]?=some v->R j v) ⟨Same.refl _,rfl,fun j v h=>by simp at h⟩ hz ?_ ?_ (fun _ _ _ _ h q=>h _ _ q) me ?_
 ·rintro i ys H' hi ⟨g,e,r⟩
  exact⟨g.zkT hq,by omega⟩
 ·rintro i x ys H' hx ⟨g,e,r⟩
  show te (Yg σ js (some x)) H' fun v H3=>Same H H3/\(ys++[v]).length=i+1/\∀(j:Nat) u,(ys++[v])[j]?=some u->R j u
  refine me _ _ _ _ (fun v H3 h3=>⟨h3.2,by rw[zrA,e];rfl,fun j u hj=>?_⟩) (hs i x H' hx g)
  by_cases hlt:j<ys.length
  ·rw[zrZ hlt] at hj
   exact r j u hj
  ·rw[List.getElem?_append_right (by omega)] at hj
   have hj0:j-ys.length=0:=by
    have:=(zrv.mp hj).1
    rw[zr0] at this
    omega
   rw[hj0] at hj
   have ev:v=u:=zrX hj
   have ej:j=i:=by omega
   rw[<-ev,ej]
   exact h3.1
 ·rintro ys H' p ⟨g,e,r⟩ hp
  exact hd ys H' p e r g hp
theorem zme {sp:Sp}(m:JH sp):∀ σ H Q Q',(∀v H1,Q v H1->Q' v H1)->Jt sp [] E0 (Qz (Jk 0) (Qz (Jk 1) zc1)) σ H Q->Jt sp [] E0 (Qz (Jk 0) (Qz (Jk 1) zc1)) σ H Q' :=
 fun σ H Q Q' h ⟨v,e,u,e',q⟩=>⟨v,e,u,e',m _ _ _ _ _ h q⟩
theorem ne_str {x y:Str}(h:x≠y):¬decide (V.str x=V.str y)=true:=fun z=>h (by have:=of_decide_eq_true z;injection this)
theorem len1 {α:Type}{ys:List α}(h:ys.length=1):∃v,ys=[v]:=by
 match ys,h with
 | [v],_=>exact⟨v,rfl⟩
theorem len2 {α:Type}{ys:List α}(h:ys.length=2):∃v u,ys=[v,u]:=by
 match ys,h with
 | [v,u],_=>exact⟨v,u,rfl⟩
end
end L2
namespace uU
open PySem L2
section
variable {K:Frag}
def ix (os:List Str)(x:Str):Nat:=os.findIdx (·==x)
theorem Ss:∀{os:List Str} {x:Str},x∈os->(os.map V.str).findIdx? (fun z=>eqV z (.str x))=some (ix os x)/\ix os x<os.length/\os[ix os x]?=some x
 | t::r,x,h=>by
  unfold ix
  rw[zrR,List.findIdx?_cons,List.findIdx_cons]
  show(if (t==x)=true then some 0 else _)=_/\_
  by_cases e:t=x
  ·subst e
   simp
  ·have hb:(t==x)=false:=by simpa using e
   have hr:x∈r:=by
    rcases List.mem_cons.mp h with z | z
    ·exact absurd z.symm e
    ·exact z
   obtain⟨h1,h2,h3⟩:=Ss hr
   rw[hb,h1]
   unfold ix at h2 h3 ⊢
   refine⟨rfl,?_,?_⟩
   ·show(r.findIdx (·==x))+1<(t::r).length
    rw[zrE];omega
   ·show(t::r)[(r.findIdx (·==x))+1]?=some x
    rw[List.getElem?_cons_succ];exact h3
theorem zhp {os:List Str}{x y:Str}(hx:x∈os)(hy:y∈os):ix os y=ix os x↔y=x:=by
 constructor
 ·intro e
  have h1:=(Ss hx).2.2
  have h2:=(Ss hy).2.2
  rw[e,h1] at h2
  exact(zrX h2).symm
 ·intro e;rw[e]
def Rb (os:List Str)(b:Nat):Str->Bool:=fun x=>b.testBit (ix os x)
theorem Ja {os:List Str}{s:Sn}{x:Str}(hs:s.QK os)(hx:x∈os)(b:Nat)(v:Bool):s.val (fun y=>if y=x then v else Rb os b y)=s.val (Rb os (zE b (ix os x) v)):=by
 refine Sn.val_congr s hs fun y hy=>?_
 show _=(zE b (ix os x) v).testBit (ix os y)
 rw[zM]
 by_cases e:y=x
 ·rw[if_pos e,if_pos ((zhp hx hy).mpr e)]
 ·rw[if_neg e,if_neg (fun z=>e ((zhp hx hy).mp z))]
  rfl
theorem yD (b p:Nat):zE b p (b.testBit p)=b:=by unfold zE;rw[if_pos rfl]
theorem zhq {os:List Str}{s:Sn}{x:Str}(hs:s.QK os)(hx:x∈os)(b:Nat):(Sn.q1 true x s).val (Rb os b)=(s.val (Rb os b)||s.val (Rb os (zE b (ix os x) (!b.testBit (ix os x))))):=by
 show(s.val (fun y=>if y=x then true else Rb os b y)||s.val (fun y=>if y=x then false else Rb os b y))=_
 rw[Ja hs hx,Ja hs hx]
 have z:=yD b (ix os x)
 cases hb:b.testBit (ix os x)
 ·rw[hb] at z;rw[z];exact Bool.or_comm _ _
 ·rw[hb] at z;rw[z];rfl
theorem zhr {os:List Str}{s:Sn}{x:Str}(hs:s.QK os)(hx:x∈os)(b:Nat):(Sn.q1 false x s).val (Rb os b)=(s.val (Rb os b)&&s.val (Rb os (zE b (ix os x) (!b.testBit (ix os x))))):=by
 show(s.val (fun y=>if y=x then true else Rb os b y)&&s.val (fun y=>if y=x then false else Rb os b y))=_
 rw[Ja hs hx,Ja hs hx]
 have z:=yD b (ix os x)
 cases hb:b.testBit (ix os x)
 ·rw[hb] at z;rw[z];exact Bool.and_comm _ _
 ·rw[hb] at z;rw[z];rfl
def TabOf (os:List Str)(s:Sn)(N:Nat):Prop:=zN os.length N (fun b=>s.val (Rb os b))
theorem zmf:∀o,w2 o≠Str.ofString "no" := by decide +kernel
theorem zkV:∀o,w2 o≠Str.ofString "yes" := by decide +kernel
theorem ziX:∀o,w2 o≠Str.ofString "mark" := by decide +kernel
theorem zkW:∀o,w2 o≠Str.ofString "not" := by decide +kernel
theorem ziY:∀o,w2 o≠Str.ofString "some" := by decide +kernel
theorem ziZ:∀o,w2 o≠Str.ofString "each" := by decide +kernel
theorem zn0 (o:Fin 4):o=0\/o=1\/o=2\/o=3:=by
 match o with
 | 0=>exact .inl rfl
 | 1=>exact .inr (.inl rfl)
 | 2=>exact .inr (.inr (.inl rfl))
 | 3=>exact .inr (.inr (.inr rfl))
inductive zde (vs:List V)(H:Hp)(Q:VK)(E9:XK):Prop
 | mk (o:Fin 4) (N M n:Nat) (f g:Nat->Bool) (_:vs=[.str (w2 o),.int N,.int M,.int ((2^2^n-1:Nat):Int)]) (_:zN n N f) (_:zN n M g) (_:∀R:Nat,zN n R (fun b=>Sn.op2 o (f b) (g b))->Q (.int R) H):zde vs H Q E9
inductive VF (K:Frag)(d:Nat)(vs:List V)(H:Hp)(Q:VK)(E9:XK):Prop
 | mk (p l:Addr) (s:Sn) (os:List Str) (_:vs=[.ref p,.ref l]) (_:Ra H s p) (_:zX K H l (os.map V.str)) (_:s.QK os) (_:os.length<=8) (_:s.depth<=d) (_:∀(N:Nat) (H':Hp),Same H H'->TabOf os s N->Q (.int N) H'):VF K d vs H Q E9
theorem zeC (d:Nat):JH (VF K d):=fun vs H Q Q' E h ⟨p,l,s,os,e,h1,h2,h3,h4,h5,q⟩=>⟨p,l,s,os,e,h1,h2,h3,h4,h5,fun N H' g z=>h _ _ (q N H' g z)⟩
inductive zfy (K:Frag)(vs:List V)(H:Hp)(Q:VK)(E9:XK):Prop
 | mk (a:Addr) (ns:List Int) (_:vs=[.ref a]) (_:zX K H a (ns.map V.int)) (_:ns.length<=63) (_:∀H',Q (.bl true) H'):zfy K vs H Q E9
end
end uU
namespace L2
open PySem PySem.Spec PyProof.Rows
theorem Rf {α:Type}{us:List α}(h:us.length=0):us=[]:=List.length_eq_zero_iff.mp h
theorem Q5 {α:Type}{us:List α}{n:Nat}(h:us.length=n+1):∃a vs,us=a::vs/\vs.length=n:=by
 cases us with
 | nil=>cases h
 | cons a vs=>exact⟨a,vs,rfl,by simpa using h⟩
def zmg (N P:List Str)(sc:Scope):Bool:=(match sc.kind with | .function=>true | _=>false)&&!sc.isCoroutine&&!sc.isGenerator&&decide N.Nodup&&decide (N.take P.length=P)&&P.all (fun x=>decide (sc.names.lookup x=some .local\/sc.names.lookup x=some .cell))&&sc.names.all (fun y=>decide (y.2≠.free))
theorem fsc {N P:List Str}{sc:Scope}(h:zmg N P sc=true):zG N P sc:=by
 unfold zmg at h
 simp only[zrU,Bool.not_eq_true',decide_eq_true_eq,zrW] at h
 obtain⟨⟨⟨⟨⟨⟨h1,h2⟩,h3⟩,h4⟩,h5⟩,h6⟩,h7⟩:=h
 refine⟨?_,h2,h3,h4,h5,h6,h7⟩
 revert h1
 cases sc.kind<;>simp
structure Df (K:Frag)(mg:Str->Option Value)(x:Str)(st:Stmt)(f:Addr)(d:FuncData)(ps:List Str):Prop where
 F:Fun K x x st f d
 b:Binds K d ps []
 m:mg x=some (.ref f)
structure Dm (K:Frag)(C:Addr)(x q:Str)(st:Stmt)(f:Addr)(d:FuncData)(ps:List Str):Prop where
 F:Fun K x q st f d
 b:Binds K d ps []
 e:Meth K C x f
section
variable {K:Frag}{h:Heap}{mg:Str->Option Value}{x q:Str}{st:Stmt}{f C:Addr}{oc:Value}{od an:Option Addr}{osl:Array (Option Value)}{kV doc pm cdv ct:Value}{ps:List Str}
theorem dfm (X:K.In h)(G:h.Ns mainGlobals mg)(n:nsIn K mainGlobals x=some (some (.ref f)))(l:K.lookup f=some ⟨oc,od,.func (PySem.W.fnOf x x (Ye st) (vR st) (zx st) .none kV doc pm an cdv ct),osl⟩)
  (c:PySem.W.codeIn K cdv x=true)(k:PySem.W.keepIn K (.ref f)=true)
  (b:∀(kV doc pm:Value) (an:Option Addr) (cdv ct:Value) (us:List Value),us.length=ps.length->bindArgs (PySem.W.fnOf x x (Ye st) (vR st) (zx st) .none kV doc pm an cdv ct) ⟨us,[]⟩=pure (ps.zip us)) :
  Df K mg x st f (PySem.W.fnOf x x (Ye st) (vR st) (zx st) .none kV doc pm an cdv ct) ps:=⟨zbU l c k,(zbU l c k).binds b,mg_of X G n⟩
theorem dmm (n:findIn K (.ref C) x=some (some (.ref f)))(i:PySem.W.isFn K (.ref f)=true)(l:K.lookup f=some ⟨oc,od,.func (PySem.W.fnOf x q (Ye st) (vR st) (zx st) .none kV doc pm an cdv ct),osl⟩)
  (c:PySem.W.codeIn K cdv q=true)(k:PySem.W.keepIn K (.ref f)=true)
  (b:∀(kV doc pm:Value) (an:Option Addr) (cdv ct:Value) (us:List Value),us.length=ps.length->bindArgs (PySem.W.fnOf x q (Ye st) (vR st) (zx st) .none kV doc pm an cdv ct) ⟨us,[]⟩=pure (ps.zip us)) :
  Dm K C x q st f (PySem.W.fnOf x q (Ye st) (vR st) (zx st) .none kV doc pm an cdv ct) ps:=⟨zbU l c k,(zbU l c k).binds b,⟨n,i,k⟩⟩
theorem zfz {p:Addr}{it:Array Value}{n:Nat}{od:Option Addr}{sl:Array (Option Value)}{xs:List V}(l:K.lookup p=some ⟨.type "tuple", od,.seq it n,sl⟩)(v:it.toList.map zef=xs.map some)(h:xs.length<=1000):∀H,vp K H p xs:=fun H=>zj1 l v h
end
section
variable {X:Cx}{CX:CXT}{k:Nat}{f C:Addr}{fd:FuncData}{ps:List Str}{sp:Sp}{st:Stmt}{x q m:Str}{p pos apos:Pos}{e o:Expr}{es:List Expr}{t:TA}{ta:TE}{E:XK}
theorem zp (F:zA X.prog X.w X.K X.mg X.base zU k f fd ps sp)(hr:Zc k X.A)(D:Df X.K X.mg x st f fd ps)(ha:PA X (e::es) t)(hg:Gl X x:=by rfl)(hdb:(x==("__debug__" : Str))=false:=by decide)(he:starEach (e::es) X.env=(false,eval e X.env)::starEach es X.env:=by rfl)(hpl:(backTo pos (starEach es X.env)).any (·.1)=false:=by rfl) :
  PE X (.Call (.Name x p) (e::es) [] pos) (Jt sp [] E0 t):=ziu F hr hg D.m D.F.2 D.b .nil zfo ha hdb he hpl
theorem yd {pl:Sem Bool}(he:PE X o ta)(c:Cls X.K C)(D:Dm X.K C m q st f fd ps)(F:zA X.prog X.w X.K X.mg X.base zU k f fd ps sp)(hr:Zc k X.A)(ha:PA X (e::es) t)
  (hst:starEach (e::es) X.env=(false,eval e X.env)::starEach es X.env:=by rfl)(hpl:(backTo pos (starEach es X.env)).any (·.1)=false:=by rfl)
  (ht:eval (.Call (.Attribute o m apos) (e::es) [] pos) X.env=(do
   let ov <-eval o X.env
   standAt apos.atName
   let (f,first) <-holding [ov] (getMethod ov m pl)
   callWith pos f first (backTo pos (starEach (e::es) X.env)) (backToKw pos (keywordEach [] X.env))):=by rfl) :
  PE X (.Call (.Attribute o m apos) (e::es) [] pos) (zfk C m sp [] E0 ta t):=ziv he c D.e F hr D.b .nil zfo ha hst hpl ht
theorem Y8 {pl:Sem Bool}(he:PE X o ta)(c:Cls X.K C)(D:Dm X.K C m q st f fd ps)(F:zA X.prog X.w X.K X.mg X.base zU k f fd ps sp)(hr:Zc k X.A)
  (ht:eval (.Call (.Attribute o m apos) [] [] pos) X.env=(do
   let ov <-eval o X.env
   standAt apos.atName
   let (f,first) <-holding [ov] (getMethod ov m pl)
   callWith pos f first (backTo pos (starEach [] X.env)) (backToKw pos (keywordEach [] X.env))):=by rfl) :
  PE X (.Call (.Attribute o m apos) [] [] pos) (zfk C m sp [] E0 ta zc1):=zgW he c D.e F hr D.b .nil zfo ht
end
inductive Ent (K:Frag)(w:World):List DictEntry->List (Str×Int×Int)->List (Str×Value)->Prop
 | nil:Ent K w [] [] []
 | cons {k:Str} {tk:Tok} {p:Addr} {m n:Int} {od:Option Addr} {it:Array Value} {z:Nat} {sl:Array (Option Value)} {es:List DictEntry} {tb:List (Str×Int×Int)} {kvs:List (Str×Value)} (l:K.lookup p=some ⟨.type "tuple", od,.seq it z,sl⟩) (v:it.toList.map zef=[V.int m,V.int n].map some) (t:Ent K w es tb kvs) :
   Ent K w (⟨hashStr w k,.str k tk,.ref p⟩::es) ((k,m,n)::tb) ((k,.ref p)::kvs)
structure Shp (K:Frag)(P:Program)(w:World)(a:Addr)(kvs:List (Str×Value))(tb:List (Str×Int×Int)):Prop where
 d:ziL K P w a kvs
 y:∀k m n,(k,m,n)∈tb->∃p,valueAt kvs k=some (.ref p)/\∀H,vp K H p [.int m,.int n]
 z:∀k,(∀e∈tb,e.1≠k)->valueAt kvs k=none
theorem Ent.keys {K:Frag}{w:World}{es:List DictEntry}{tb:List (Str×Int×Int)}{kvs:List (Str×Value)}(h:Ent K w es tb kvs):kvs.map (·.1)=tb.map (·.1):=by
 induction h with
 | nil=>rfl
 | cons _ _ _ ih=>rw[zrR,zrR,ih]
theorem zkX {K:Frag}{P:Program}{w:World}{a:Addr}{es:Array DictEntry}{ep:Nat}{kvs:List (Str×Value)}{tb:List (Str×Int×Int)}(l:K.lookup a=some ⟨.type "dict", none,.dict es ep,#[]⟩)(s:(a==sysModules)=false)(nd:decide (tb.map (·.1)).Nodup=true)(h:Ent K w es.toList tb kvs):Shp K P w a kvs tb:=by
 have nk:(kvs.map (·.1)).Nodup:=by rw[h.keys];exact of_decide_eq_true nd
 obtain⟨el,hel⟩:∃el,es.toList=el:=⟨_,rfl⟩
 rw[hel] at h
 refine⟨ziN l hel s ?_ nk,?_,?_⟩
 ·clear nd nk l s hel
  induction h with
  | nil=>exact zkR
  | cons _ _ _ ih=>exact ziM ih
 ·clear nd l s hel
  induction h with
  | nil=>intro k m n hm;cases hm
  | @cons k0 tk p m0 n0 od it z sl es tb kvs l v t ih =>
   intro k m n hm
   rw[zrR,List.nodup_cons] at nk
   rcases List.mem_cons.mp hm with e | e
   ·cases e
    refine⟨p,?_,fun H=>zj1 l v (by show 2<=1000;decide)⟩
    simp[valueAt]
   ·obtain⟨q,hq,sq⟩:=ih nk.2 k m n e
    refine⟨q,?_,sq⟩
    have ne:k0≠k:=fun z=>nk.1 (by rw[z,t.keys];exact List.mem_map.mpr ⟨_,e,rfl⟩)
    simp[valueAt,ne] at hq ⊢
    exact hq
 ·clear nd nk l s hel
  induction h with
  | nil=>intro k _;rfl
  | @cons k0 tk p m0 n0 od it z sl es tb kvs l v t ih =>
   intro k hk
   have ne:=hk (k0,m0,n0) (zrM ..)
   have:=ih k fun e he=>hk e (zrD _ he)
   simp[valueAt] at this ⊢
   exact⟨ne,this⟩
theorem zH {X:Cx}{pos:Pos}(i:Nat){x:Str}{e:Expr}{te:TE}{pos':Pos}(hN:X.N.Nodup)(he:PE X e te)(hi:X.N[i]?=some x:=by rfl)(hx:Loc X.env.scope x:=by exact Or.inl rfl)(hs:swapsWith e (some (.Name x pos')) pos.line X.env=pure false:=by rfl)(hf:X.fn x=true\/X.env.scope.names.lookup x=some .local:=by first | exact .inl rfl | exact .inr rfl | assumption) :
  PS X (.Assign [.Name x pos'] e pos) (zku te (XQ i)):=RB hN hi hx he hs hf
def lcB (vX sc:Scope)(x:Str)(fv:List Str):Bool:=(match sc.kind with | .function=>true | _=>false)&&sc.names.all (fun y=>decide (y.2≠.cell))&&sc.names.all (fun y=>decide (y.2=.local->sc.names.lookup y.1=some .local))&&decide (sc.names.lookup x=some .local)&&sc.names.all (fun y=>decide (y.2=.free->vX.names.lookup y.1=some .cell\/vX.names.lookup y.1=some .free))&&fv.all (fun y=>decide (sc.names.lookup y=some .free/\(vX.names.lookup y=some .cell\/vX.names.lookup y=some .free)))&&decide (x::fv).Nodup
theorem lco {vX sc:Scope}{x:Str}{fv:List Str}(h:lcB vX sc x fv=true):Yt vX sc x fv:=by
 unfold lcB at h
 simp only[zrU,decide_eq_true_eq,zrW] at h
 obtain⟨⟨⟨⟨⟨⟨h1,h2⟩,h3⟩,h4⟩,h5⟩,h6⟩,h7⟩:=h
 refine⟨?_,h2,h3,h4,h5,h6,h7⟩
 revert h1
 cases sc.kind<;>simp
section
variable {κ:Type}[DecidableEq κ]
def tL (kvs:List (κ×V))(k:κ):Option V:=(kvs.find? fun kv=>decide (kv.1=k)).map (·.2)
def putK (kvs:List (κ×V))(k:κ)(v:V):List (κ×V) :=
 if (kvs.any fun kv=>decide (kv.1=k))=true then kvs.map (fun kv=>if kv.1=k then (kv.1,v) else kv) else kvs++[(k,v)]
def LC (kvs:List (κ×V))(k:κ):List (κ×V):=kvs.filter fun kv=>decide (kv.1≠k)
theorem wU {p:κ×V}{r:List (κ×V)}{k:κ}(e:p.1=k):tL (p::r) k=some p.2:=by simp[tL,List.find?_cons,e]
theorem wF {p:κ×V}{r:List (κ×V)}{k:κ}(e:¬p.1=k):tL (p::r) k=tL r k:=by simp[tL,List.find?_cons,e]
theorem U0 (k:κ):∀kvs:List (κ×V),(kvs.any fun kv=>decide (kv.1=k))=(tL kvs k).isSome
 | []=>rfl
 | p::r=>by
  rw[List.any_cons]
  by_cases e:p.1=k
  ·simp only[wU e,decide_eq_true e,Bool.true_or,Option.isSome_some]
  ·rw[wF e,decide_eq_false e,Bool.false_or];exact U0 k r
theorem zdf (k j:κ)(y:V):∀kvs:List (κ×V),tL (kvs.map fun kv=>if kv.1=k then (kv.1,y) else kv) j=(tL kvs j).map fun x=>if j=k then y else x
 | []=>rfl
 | p::r=>by
  have ih:=zdf k j y r
  rw[zrR]
  by_cases h:p.1=k
  ·rw[if_pos h]
   by_cases e:p.1=j
   ·rw[wU (p:=(p.1,y)) e,wU e,Option.map_some,if_pos (e.symm.trans h)]
   ·rw[wF (p:=(p.1,y)) e,wF e,ih]
  ·rw[if_neg h]
   by_cases e:p.1=j
   ·rw[wU (p:=p) e,wU e,Option.map_some,if_neg (fun z=>h (e.trans z))]
   ·rw[wF (p:=p) e,wF e,ih]
theorem zbi (k j:κ)(y:V):∀kvs:List (κ×V),tL kvs k=none->tL (kvs++[(k,y)]) j=if j=k then some y else tL kvs j
 | [],_=>by
  by_cases e:k=j
  ·rw[if_pos e.symm];exact wU (p:=(k,y)) e
  ·rw[if_neg (fun z=>e z.symm)];exact wF (p:=(k,y)) e
 | p::r,hn=>by
  rw[List.cons_append]
  have hk:¬p.1=k:=fun z=>by rw[wU z] at hn;cases hn
  rw[wF hk] at hn
  have ih:=zbi k j y r hn
  by_cases e:p.1=j
  ·rw[wU e,wU e,if_neg (fun z=>hk (e.trans z))]
  ·rw[wF e,wF e,ih]
theorem JM (kvs:List (κ×V))(k j:κ)(y:V):tL (putK kvs k y) j=if j=k then some y else tL kvs j:=by
 unfold putK
 by_cases a:(kvs.any fun kv=>decide (kv.1=k))=true
 ·rw[if_pos a,zdf]
  rw[U0] at a
  by_cases e:j=k
  ·obtain⟨x,hx⟩:=Option.isSome_iff_exists.mp a
   rw[if_pos e,e,hx,Option.map_some,if_pos rfl]
  ·rw[if_neg e]
   cases tL kvs j with
   | none=>rfl
   | some x=>rw[Option.map_some,if_neg e]
 ·rw[if_neg a]
  refine zbi k j y kvs ?_
  rw[U0] at a
  cases q:tL kvs k with
  | none=>rfl
  | some x=>rw[q] at a;exact(a rfl).elim
theorem X3 (kvs:List (κ×V))(k:κ)(v:V):(putK kvs k v).length<=kvs.length+1:=by
 unfold putK
 split
 ·rw[zrs];omega
 ·rw[zrA,zrE,List.length_nil];omega
theorem zdg {kvs:List (κ×V)}{k:κ}(v:V)(h:tL kvs k=none):putK kvs k v=kvs++[(k,v)]:=by
 unfold putK
 rw[U0,h]
 exact if_neg (by decide)
theorem Ur.Sv {o:Option V}{u:Option Value}(r:Ur o u):o.isSome=u.isSome:=by
 cases o with
 | none=>cases u with
  | none=>rfl
  | some _=>exact(show False from r).elim
 | some _=>cases u with
  | none=>exact(show False from r).elim
  | some _=>rfl
theorem KV.val {kvs:List (κ×V)}{vs:List (κ×Value)}(r:KV kvs vs)(k:κ):Ur (tL kvs k) (valueAt vs k):=by
 unfold KV at r
 induction r with
 | nil=>exact True.intro
 | @cons p q ps qs h t ih =>
  obtain⟨h1,h2⟩:=h
  by_cases e:p.1=k
  ·have e':q.1=k:=h1.symm.trans e
   have b:valueAt (q::qs) k=some q.2:=by simp[valueAt,List.find?_cons,e']
   rw[wU e,b];exact h2
  ·have e':¬q.1=k:=fun z=>e (h1.trans z)
   have b:valueAt (q::qs) k=valueAt qs k:=by simp[valueAt,List.find?_cons,e']
   rw[wF e,b];exact ih
theorem KV.any {kvs:List (κ×V)}{vs:List (κ×Value)}(r:KV kvs vs)(k:κ):(kvs.any fun kv=>decide (kv.1=k))=vs.any fun kv=>decide (kv.1=k):=by
 unfold KV at r
 induction r with
 | nil=>rfl
 | cons h t ih=>rw[List.any_cons,List.any_cons,ih,h.1]
theorem KV.repl {kvs:List (κ×V)}{vs:List (κ×Value)}(r:KV kvs vs)(k:κ){y:V}{u:Value}(ry:RelV y u) :
  KV (kvs.map fun kv=>if kv.1=k then (kv.1,y) else kv) (vs.map fun kv=>if kv.1=k then (kv.1,u) else kv):=by
 unfold KV at r ⊢
 induction r with
 | nil=>exact .nil
 | @cons p q ps qs h t ih =>
  rw[zrR,zrR]
  refine .cons ?_ ih
  obtain⟨h1,h2⟩:=h
  by_cases e:p.1=k
  ·rw[if_pos e,if_pos (h1.symm.trans e)];exact⟨h1,ry⟩
  ·rw[if_neg e,if_neg (fun z=>e (h1.trans z))];exact⟨h1,h2⟩
theorem KV.put {kvs:List (κ×V)}{vs:List (κ×Value)}(r:KV kvs vs)(k:κ){y:V}{u:Value}(ry:RelV y u):KV (putK kvs k y) (stored vs k u):=by
 unfold putK stored
 rw[r.any k]
 by_cases e:(vs.any fun kv=>decide (kv.1=k))=true
 ·rw[if_pos e,if_pos e];exact r.repl k ry
 ·rw[if_neg e,if_neg e];exact Paired.snoc r ⟨rfl,ry⟩
theorem KV.drop {kvs:List (κ×V)}{vs:List (κ×Value)}(r:KV kvs vs)(k:κ):KV (LC kvs k) (without vs k):=by
 unfold KV at r ⊢
 unfold LC without
 induction r with
 | nil=>exact .nil
 | @cons p q ps qs h t ih =>
  obtain⟨h1,h2⟩:=h
  rw[List.filter_cons,List.filter_cons]
  by_cases e:p.1=k
  ·have a:¬decide (p.1≠k)=true:=by simp[e]
   have b:¬decide (q.1≠k)=true:=by simp[h1.symm.trans e]
   rw[if_neg a,if_neg b];exact ih
  ·have e':¬q.1=k:=fun z=>e (h1.trans z)
   have a:decide (p.1≠k)=true:=by simp[e]
   have b:decide (q.1≠k)=true:=by simp[e']
   rw[if_pos a,if_pos b];exact .cons ⟨h1,h2⟩ ih
theorem KV.length {kvs:List (κ×V)}{vs:List (κ×Value)}(r:KV kvs vs):kvs.length=vs.length:=Paired.length r
theorem zdh (kvs:List (κ×V))(k:κ):(LC kvs k).length<=kvs.length:=zr1 _ _
end
theorem JN {P:Program}{w:World}{k:Key}{u:Value}(r:RelV (kV k) u):(yc P w).is k u=true:=by
 cases k with
 | inl i=>obtain⟨t,e⟩:=(show ∃t,u=Value.int i t from r);subst e;exact zcW P w i t
 | inr x=>obtain⟨t,e⟩:=(show ∃t,u=Value.str x t from r);subst e;exact zcX P w x t
theorem zbj {P:Program}{w:World}:∀{ks:List Key} {us:List Value},Vals (ks.map kV) us->ItemsAre (yc P w) ks us
 | [],_,r=>by rw[List.map_nil] at r;cases r;exact .nil
 | k::ks,_,r=>by
  rw[zrR] at r
  cases r with
  | cons h t=>exact .cons (JN h) (zbj t)
abbrev KT (H:Hp):List (List Key×V)->List (List Key×Addr×Value)->Prop:=Paired fun p q=>p.1=q.1/\H q.2.1=some (.tup (p.1.map kV))/\RelV p.2 q.2.2
theorem KT.val {H:Hp}{kvs:List (List Key×V)}{xs:List (List Key×Addr×Value)}(r:KT H kvs xs)(k:List Key):Ur (tL kvs k) ((atKey xs k).map (·.2)):=by
 induction r with
 | nil=>exact True.intro
 | @cons p q ps qs h t ih =>
  obtain⟨h1,_,h2⟩:=h
  by_cases e:p.1=k
  ·have e':q.1=k:=h1.symm.trans e
   have b:atKey (q::qs) k=some q.2:=by simp[atKey,List.find?_cons,e']
   rw[wU e,b];exact h2
  ·have e':¬q.1=k:=fun z=>e (h1.trans z)
   have b:atKey (q::qs) k=atKey qs k:=by simp[atKey,List.find?_cons,e']
   rw[wF e,b];exact ih
theorem KT.repl {H:Hp}{kvs:List (List Key×V)}{xs:List (List Key×Addr×Value)}(r:KT H kvs xs)(k:List Key){y:V}{u:Value}(ry:RelV y u) :
  KT H (kvs.map fun kv=>if kv.1=k then (kv.1,y) else kv) (xs.map (putAt k u)):=by
 induction r with
 | nil=>exact .nil
 | @cons p q ps qs h t ih =>
  rw[zrR,zrR]
  refine .cons ?_ ih
  obtain⟨h1,h2,h3⟩:=h
  unfold putAt
  by_cases e:p.1=k
  ·rw[if_pos e,if_pos (h1.symm.trans e)];exact⟨h1,h2,ry⟩
  ·rw[if_neg e,if_neg (fun z=>e (h1.trans z))];exact⟨h1,h2,h3⟩
theorem KT.put {H:Hp}{kvs:List (List Key×V)}{xs:List (List Key×Addr×Value)}(r:KT H kvs xs)(k:List Key){b:Addr}{y:V}{u:Value}(hb:H b=some (.tup (k.map kV)))(ry:RelV y u) :
  KT H (putK kvs k y) (storedH xs k b u):=by
 have e:(kvs.any fun kv=>decide (kv.1=k))=(atKey xs k).isSome:=by
  rw[U0,(r.val k).Sv,Option.isSome_map]
 unfold putK storedH
 rw[e]
 by_cases q:(atKey xs k).isSome=true
 ·rw[if_pos q,if_pos q];exact r.repl k ry
 ·rw[if_neg q,if_neg q];exact Paired.snoc r ⟨rfl,hb,ry⟩
theorem KT.keeps {H H':Hp}{kvs:List (List Key×V)}{xs:List (List Key×Addr×Value)}(r:KT H kvs xs)(ht:∀b ys,H b=some (.tup ys)->H' b=some (.tup ys)):KT H' kvs xs :=
 Paired.zkl r fun _ _ z=>⟨z.1,ht _ _ z.2.1,z.2.2⟩
section
variable {P:Program}{w:World}{H:Hp}{h:Heap}{a:Addr}
theorem zj3 {u:HO}(ok:S9 P w H h)(e:Rd H a u):wM P w H h a u:=e.ok ok
theorem zfA {kvs:List (Key×V)}(ok:S9 P w H h)(e:Rd H a (.dK kvs)):kvs.length<=sizeLine/\(a==sysModules)=false/\∃vs,KV kvs vs/\h.DictOf (yc P w) a vs :=
 show wM P w H h a (.dK kvs) from zj3 ok e
theorem zfB {kvs:List (Key×V)}(ok:S9 P w H h)(e:H a=some (.dK kvs)):kvs.length<=sizeLine/\(a==sysModules)=false/\∃vs,KV kvs vs/\h.DictOf (yc P w) a vs:=zfA ok (.inl e)
theorem zb5 {ks:List Key}(ok:S9 P w H h)(e:H a=some (.tup (ks.map kV))):(tupleKind (yc P w)).is h ks a:=by
 obtain⟨_,its,r,o,h1,h2,n,h3⟩:=(show wM P w H h a (.tup (ks.map kV)) from ok a _ e)
 exact⟨o,its.toArray,n,h1,h2,h3,by simpa using zbj r⟩
theorem zfC {kvs:List (List Key×V)}(ok:S9 P w H h)(e:Rd H a (.dT kvs)):kvs.length<=sizeLine/\(a==sysModules)=false /\
  ∃xs,KT H kvs xs/\h.DictOfH (tupleKind (yc P w)) a xs:=by
 obtain⟨z,y,xs,r,o,es,ep,h1,h2,h3,h4,h5⟩:=(show wM P w H h a (.dT kvs) from zj3 ok e)
 refine⟨z,y,xs,r,o,es,ep,h1,h2,h3,h4,fun x hx=>?_,h5⟩
 have all:∀{l:List (List Key×V)} {m:List (List Key×Addr×Value)},KT H l m->∀x∈m,(tupleKind (yc P w)).is h x.1 x.2.1:=by
  intro l m q
  induction q with
  | nil=>intro x hx;exact nomatch hx
  | @cons p q ps qs hq t ih =>
   intro x hx
   rcases List.mem_cons.mp hx with e | hx
   ·subst e
    exact zb5 ok (by rw[<-hq.1];exact hq.2.1)
   ·exact ih x hx
 exact all r x hx
theorem zmh {kvs:List (List Key×V)}(ok:S9 P w H h)(e:H a=some (.dT kvs)):kvs.length<=sizeLine/\(a==sysModules)=false /\
  ∃xs,KT H kvs xs/\h.DictOfH (tupleKind (yc P w)) a xs:=zfC ok (.inl e)
end
def KH (H:Hp)(a:Addr)(y:V)(r:Option V):Prop :=
 (∃kvs k,Rd H a (.dK kvs)/\y=kV k/\r=tL kvs k)\/∃kvs k b,Rd H a (.dT kvs)/\y=.ref b/\H b=some (.tup (k.map kV))/\r=tL kvs k
def zeD (H:Hp)(a:Addr)(y v:V)(H':Hp):Prop :=
 (∃kvs k,H a=some (.dK kvs)/\y=kV k/\kvs.length<sizeLine/\H'=upd H a (.dK (putK kvs k v))) \/
 ∃kvs k b,H a=some (.dT kvs)/\y=.ref b/\H b=some (.tup (k.map kV))/\kvs.length<sizeLine/\H'=upd H a (.dT (putK kvs k v))
theorem KH.k {H:Hp}{a:Addr}{kvs:List (Key×V)}{k:Key}(e:H a=some (.dK kvs)):KH H a (kV k) (tL kvs k):=.inl ⟨kvs,k,.inl e,rfl,rfl⟩
theorem zeD.k {H:Hp}{a:Addr}{kvs:List (Key×V)}{k:Key}{v:V}(e:H a=some (.dK kvs))(hl:kvs.length<sizeLine):zeD H a (kV k) v (upd H a (.dK (putK kvs k v))):=.inl ⟨kvs,k,e,rfl,hl,rfl⟩
section
variable {X:Cx}{pins:List (Addr×Obj)}{σ:St}{H:Hp}{s:Shared}{a:Addr}{y v:V}{u r:Value}{o:Option V}{A:Around}{E:Value->Shared->Prop}
theorem Inv.big (I:Inv X pins σ H s):sysModules<s.heap.objs.size:=by
 have h:mainGlobals<s.heap.objs.size:=(I.mod.glob.keeps I.bk).lt
 exact Nat.lt_trans (by decide) h
theorem zgj {Q:Value->Shared->Prop}(hu:A.units+1<cLine)(I:Inv X pins σ H s)(g:KH H a y (some v))(ry:RelV y u)(h:∀w' s',Inv X pins σ H s'->RelV v w'->Q w' s') :
  wpAny (model X.prog X.w) A (getItem (.ref a) u) Q E s:=by
 rcases g with ⟨kvs,k,e,ey,l⟩ | ⟨kvs,k,b,e,ey,eb,l⟩
 ·subst ey
  obtain⟨z,hd,vs,rel,dd⟩:=zfA I.hok e
  obtain⟨w',hw,rw'⟩:=Ur.some_of (v:=v) (o:=valueAt vs k) (by rw[l];exact rel.val k)
  exact wpAny_getItem_of (JN ry) dd.mapOf hw (h w' _ (I.tok _) rw')
 ·subst ey
  cases (show u=Value.ref b from ry)
  obtain⟨z,hd,xs,rel,dd⟩:=zfC I.hok e
  obtain⟨w',hw,rw'⟩:=Ur.some_of (v:=v) (o:=(atKey xs k).map (·.2)) (by rw[l];exact rel.val k)
  obtain⟨p,hp,hp2⟩:=Option.map_eq_some_iff.mp hw
  refine wpAny_getItem_heap (tupleKind_room_in1 hu) (zb5 I.hok eb) dd hp ?_
  rw[hp2]
  exact h w' _ (I.tok _) rw'
theorem zi0 {Q:Value->Shared->Prop}(hu:A.units+1<cLine)(I:Inv X pins σ H s)(g:KH H a y o)(ry:RelV y u)(h:∀s',Inv X pins σ H s'->Q (.bool (!o.isSome)) s') :
  wpAny (model X.prog X.w) A (compareOp .NotIn u (.ref a)) Q E s:=by
 rcases g with ⟨kvs,k,e,ey,l⟩ | ⟨kvs,k,b,e,ey,eb,l⟩
 ·subst ey
  obtain⟨z,hd,vs,rel,dd⟩:=zfA I.hok e
  refine wpAny_notIn_of (JN ry) hd dd.mapOf ?_
  rw[<-(rel.val k).Sv,<-l]
  exact h _ (I.tok _)
 ·subst ey
  cases (show u=Value.ref b from ry)
  obtain⟨z,hd,xs,rel,dd⟩:=zfC I.hok e
  refine wpAny_notIn_heap (tupleKind_room_in1 hu) (zb5 I.hok eb) hd dd ?_
  have q:=(rel.val k).Sv
  rw[Option.isSome_map] at q
  rw[<-q,<-l]
  exact h _ (I.tok _)
theorem Q6 {h':Heap}{t':Nat}{ob:HO}(I:Inv X pins σ H s)(mu:Mut (H a))(hs:Heap.SameBut a s.heap h')(he:∃q,h'.get? a=some q)(new:wM X.prog X.w (upd H a ob) h' a ob) :
  Inv X pins σ (upd H a ob) { s with heap:=h',toks:=t' } :=
 I.write (x:=a) (e:=a) mu (.inl rfl) (fun b q hb z=>(hs.2 b hb).trans z) he new
theorem zb6 {P:Program}{w:World}{H':Hp}{h':Heap}{kvs:List (Key×V)}{vs:List (Key×Value)}(z:kvs.length<=sizeLine)(hd:(a==sysModules)=false)(rel:KV kvs vs)(dd:h'.DictOf (yc P w) a vs) :
  wM P w H' h' a (.dK kvs):=⟨z,hd,vs,rel,dd⟩
theorem zgk {H':Hp}{Q:Unit->Shared->Prop}(hu:A.units+1<cLine)(I:Inv X pins σ H s)(g:zeD H a y v H')(ry:RelV y u)(rv:RelV v r)(h:∀s',Inv X pins σ H' s'->Q () s') :
  wpAny (model X.prog X.w) A (setItem (.ref a) u r) Q E s:=by
 rcases g with ⟨kvs,k,e,ey,l,eH⟩ | ⟨kvs,k,b,e,ey,eb,l,eH⟩
 ·subst ey eH
  obtain⟨z,hd,vs,rel,dd⟩:=zfB I.hok e
  have hz:vs.length<=sizeLine:=by rw[<-rel.length];exact z
  have hl:(putK kvs k v).length<=sizeLine:=by have:=X3 kvs k v;omega
  refine wpAny_setItem_pairs (hsz:=hz) (JN ry) dd fun h' dd' hs=>h _ ?_
  have he:∃q,h'.get? a=some q:=let ⟨q,_,_,hq,_⟩:=dd';⟨q,hq⟩
  exact Q6 I (by rw[e];exact True.intro) hs he (zb6 hl hd (rel.put k rv) dd')
 ·subst ey eH
  cases (show u=Value.ref b from ry)
  obtain⟨z,hd,xs,rel,dd⟩:=zmh I.hok e
  have hz:xs.length<=sizeLine:=by rw[<-Paired.length rel];exact z
  have hl:(putK kvs k v).length<=sizeLine:=by have:=X3 kvs k v;omega
  refine wpAny_setItem_heap (hsz:=hz) (tupleKind_room_in1 hu) (zb5 I.hok eb) dd fun h' dd' hs=>h _ ?_
  obtain⟨q,es,ep,hq,h2,h3,h4,_,h5⟩:=dd'
  refine Q6 I (by rw[e];exact True.intro) hs ⟨q,hq⟩ ⟨hl,hd,_,(rel.put k eb rv).keeps fun c ys ec=>?_,q,es,ep,hq,h2,h3,h4,h5⟩
  rw[zB (Us ec e (fun z=>nomatch z))]
  exact ec
end
section
variable {X:Cx}{pins:List (Addr×Obj)}{σ:St}{H:Hp}{s:Shared}{a:Addr}{kvs:List (Key×V)}{k:Key}{u:Value}{A:Around}{E:Value->Shared->Prop}
theorem zls {Q:Unit->Shared->Prop}(I:Inv X pins σ H s)(e:H a=some (.dK kvs))(ry:RelV (kV k) u)(l:(tL kvs k).isSome=true)(h:∀s',Inv X pins σ (upd H a (.dK (LC kvs k))) s'->Q () s') :
  wpAny (model X.prog X.w) A (delItem (.ref a) u) Q E s:=by
 obtain⟨z,hd,vs,rel,dd⟩:=zfB I.hok e
 refine wpAny_delItem_slot dd.typeIs (by decide) PySem.F.slot_dict_delitem
  (call_meetsIn PySem.F.slot_dict_delitem dd.typeIs PySem.F.entry_dict_delitem (PySem.F.args_dict_delitem_2 _ _) (meets_dict_delitem_pairs (yc X.prog X.w) a (JN ry)) ⟨vs,dd,by rw[<-rel.length];exact z,by rw[<-(rel.val k).Sv];exact l,fun h' dd' hs=>h _ ?_⟩)
 have he:∃q,h'.get? a=some q:=let ⟨q,_,_,hq,_⟩:=dd';⟨q,hq⟩
 exact Q6 I (by rw[e];exact True.intro) hs he (zb6 (zrO (zdh kvs k) z) hd (rel.drop k) dd')
theorem zmi {v:V}{more:List Value}{Q:Value->Shared->Prop}(I:Inv X pins σ H s)(e:H a=some (.dK kvs))(ry:RelV (kV k) u)(l:tL kvs k=some v)(hm:more=[]\/∃x,more=[x])
  (h:∀w' s',Inv X pins σ (upd H a (.dK (LC kvs k))) s'->RelV v w'->Q w' s'):wpAny (model X.prog X.w) A (call (.builtin "dict.pop") (.ref a::u::more)) Q E s:=by
 obtain⟨z,hd,vs,rel,dd⟩:=zfB I.hok e
 obtain⟨w',hw,rw'⟩:=Ur.some_of (v:=v) (o:=valueAt vs k) (by rw[<-l];exact rel.val k)
 have hp:(keyPart u).isSome=true:=by
  cases k with
  | inl i=>obtain⟨t,q⟩:=(show ∃t,u=Value.int i t from ry);subst q;rfl
  | inr x=>obtain⟨t,q⟩:=(show ∃t,u=Value.str x t from ry);subst q;rfl
 have ha:argsOk "dict.pop" ⟨.ref a::u::more,[]⟩:=by
  rcases hm with q | ⟨x,q⟩
  ·subst q;exact PySem.F.args_dict_pop_2 _ _
  ·subst q;exact PySem.F.args_dict_pop_3 _ _ _
 refine call_meetsIn PySem.F.slot_dict_pop dd.typeIs PySem.F.entry_dict_pop ha (meets_dict_pop_there (yc X.prog X.w) a (JN ry) more hm hp)
  ⟨vs,w',dd,by rw[<-rel.length];exact z,hw,fun h' dd' hs=>h w' _ ?_ rw'⟩
 have he:∃q,h'.get? a=some q:=let ⟨q,_,_,hq,_⟩:=dd';⟨q,hq⟩
 exact Q6 I (by rw[e];exact True.intro) hs he (zb6 (zrO (zdh kvs k) z) hd (rel.drop k) dd')
end
def zmj (i:Expr):Prop:=∀ov iv,subscripted i false ov iv=operate [ov,iv] (getItem ov iv)
theorem zi1 {prog:Program}{w:World}{A:Around}{E:Value->Shared->Prop}{s:Shared}{env:Env}{value slice:Expr}{pos:Pos}{T id:String}{Q:Value->Shared->Prop}
  (hl:typeLookup (.type T) "__getitem__"=pure (some (.builtin id)))(hs:zmj slice)
  (h:wpAny (model prog w) A (eval value env) (fun o s₁=>wpAny (model prog w) A (eval slice env) (fun i s₂=>s₂.TypeIs o T/\wpAny (model prog w) A (getItem o i) Q E s₂) E s₁) E s) :
  wpAny (model prog w) A (eval (.Subscript value slice pos) env) Q E s:=by
 refine Subscript_ (wpAny_mono h (fun o s₁ h₁=>wpAny_mono h₁ (fun i s₂ h₂=>?_) fun _ _ x=>x) fun _ _ x=>x)
 obtain⟨hT,h₂⟩:=h₂
 unfold subscriptTail
 refine wpAny_bind ?_
 rw[getitemInPython_of_ne hT.not_modules]
 refine wpAny_bind (wpAny_specialOf hT hl ?_)
 have fin:wpAny (model prog w) A (subscripted slice false o i) (fun r s₃=>wpAny (model prog w) A (letTemporaryGo value o r>>=fun _=>pure r) Q E s₃) E s₂:=by
  rw[hs o i]
  exact wpAny_operating (wpAny_mono h₂ (fun r s₃ h₃=>wpAny_bind (wpAny_letTemporaryGo (wpAny_pure h₃))) fun _ _ x=>x)
 first
  | exact wpAny_pure (wpAny_bind fin)
  | exact wpAny_bind (wpAny_pure (wpAny_bind fin))
  | exact wpAny_bind fin
theorem zdi {X:Cx}{pins:List (Addr×Obj)}{σ:St}{H:Hp}{s:Shared}{a:Addr}{y:V}{o:Option V}(I:Inv X pins σ H s)(g:KH H a y o):s.TypeIs (.ref a) "dict" := by
 rcases g with ⟨kvs,k,e,_,_⟩ | ⟨kvs,k,b,e,_,_,_⟩
 ·obtain⟨_,_,vs,_,dd⟩:=zfA I.hok e
  exact dd.typeIs
 ·obtain⟨_,_,xs,_,dd⟩:=zfC I.hok e
  exact dd.typeIs
def zmk (td ty:TE):TE:=fun σ H Q=>td σ H fun x H1=>ty σ H1 fun y H2=>∃a v,x=.ref a/\KH H2 a y (some v)/\Q v H2
def zi2 (ty td:TE):TE:=fun σ H Q=>ty σ H fun y H1=>td σ H1 fun x H2=>∃a o,x=.ref a/\KH H2 a y o/\Q (.bl (!o.isSome)) H2
def zml (td ty tv:TE):TS:=fun D σ H=>tv σ H fun v H1=>td σ H1 fun x H2=>ty σ H2 fun y H3=>∃a H4,x=.ref a/\zeD H3 a y v H4/\D.nx σ H4
section
variable {X:Cx}{o i e value:Expr}{pos pos' tpos:Pos}{td ty tv:TE}
theorem zfD (hu:X.A.units+1<cLine)(ho:PE X o td)(hi:PE X i ty)(hs:zmj i):PE X (.Subscript o i pos) (zmk td ty):=by
 intro pins s σ H Q I h
 refine zi1 PySem.F.slot_dict_getitem.lookup hs (wQ (ho pins s σ H _ I h) fun u s1 ⟨x,H1,I1,rx,q1⟩=>wQ (hi pins s1 σ H1 _ I1 q1) fun iv s2 ⟨y,H2,I2,ry,a,v,ex,g,q2⟩=>?_)
 subst ex
 obtain rfl:u=Value.ref a:=rx
 exact⟨zdi I2 g,zgj hu I2 g ry fun w' s3 I3 rw'=>⟨v,H2,I3,rw',q2⟩⟩
theorem zbk (hu:X.A.units+1<cLine)(hi:PE X i ty)(ho:PE X o td):PC X .NotIn i o (zi2 ty td):=by
 intro pins s σ H Q I h
 refine wQ (hi pins s σ H _ I h) fun iv s1 ⟨y,H1,I1,ry,q1⟩=>wQ (ho pins s1 σ H1 _ I1 q1) fun u s2 ⟨x,H2,I2,rx,a,ov,ex,g,q2⟩=>?_
 subst ex
 obtain rfl:u=Value.ref a:=rx
 exact zi0 hu I2 g ry fun s3 I3=>⟨.bl (!ov.isSome),H2,I3,rfl,q2⟩
theorem zb7 (hu:X.A.units+1<cLine)(ho:PE X o td)(hi:PE X i ty)(hv:PE X value tv)(hs:swapsWith value (some (.Subscript o i pos')) pos.line X.env=pure false) :
  PS X (.Assign [.Subscript o i pos'] value pos) (zml td ty tv):=by
 intro pins s σ H D I h
 refine wpAny_Assign_Subscript (wQ (hv pins s σ H _ I h) fun r s1 ⟨v,H1,I1,rv,q1⟩=>wQ (ho pins s1 σ H1 _ I1 q1) fun u s2 ⟨x,H2,I2,rx,q2⟩=>wQ (hi pins s2 σ H2 _ I2 q2) fun iv s3 ⟨y,H3,I3,ry,a,H4,ex,g,q3⟩=>?_) hs
 subst ex
 obtain rfl:u=Value.ref a:=rx
 exact zgk hu I3 g ry rv fun s4 I4=>⟨σ,H4,I4,q3⟩
end
theorem zdj {P:Program}{w:World}{H:Hp}(h:Heap)(hb:sysModules<h.objs.size):wM P w H (h.push { cls:=.type "dict", data:=.dict #[] }) h.objs.size (.dK []) :=
 ⟨zrP _,beq_eq_false_iff_ne.mpr (Ne.symm (zrH hb)),[],.nil,Heap.DictOf.new h⟩
def zkY:TE:=fun _ H Q=>∀p,H p=none->Q (.ref p) (upd H p (.dK []))
section
variable {X:Cx}{pos:Pos}
theorem zdk:PE X (.Dict [] [] pos) zkY:=fun pins s σ H Q I h =>
 wpAny_Dict_empty ⟨.ref s.heap.objs.size,_,I.laid (a:=s.heap.objs.size) (o:=.dK []) (t':=s.toks) (fun _ _ q=>zry _ q) (zrI _) (zdj s.heap I.big),rfl,h _ (I.hok.fresh (zrI _))⟩
end
def zeE:List (TE×TE)->St->Hp->(List (V×V)->Hp->Prop)->Prop
 | [],_,H,Q=>Q [] H
 | (tk,tv)::r,σ,H,Q=>tk σ H fun x H1=>tv σ H1 fun y H2=>zeE r σ H2 fun ps H3=>Q ((x,y)::ps) H3
abbrev VV:List (V×V)->List (Value×Value)->Prop:=Paired fun p q=>RelV p.1 q.1/\RelV p.2 q.2
def PPs (X:Cx)(pos:Pos)(keys:List (Option Expr))(values:List Expr)(trs:List (TE×TE)):Prop :=
 ∀(pins:List (Addr×Obj)) (s:Shared) (σ:St) (H:Hp) (Q:List (V×V)->Hp->Prop),Inv X pins σ H s->zeE trs σ H Q ->
  wpAny (model X.prog X.w) X.A (evalPairs (pairTrees keys values X.env pos)) (fun vs s'=>∃ps H',Inv X pins σ H' s'/\VV ps vs/\Q ps H') X.xe s
theorem zi4 {X:Cx}{pos:Pos}:PPs X pos [] [] []:=fun pins s σ H Q I h=>pairTrees_nil_walk ⟨[],H,I,.nil,h⟩
theorem zdl {X:Cx}{pos:Pos}{k v:Expr}{ks:List (Option Expr)}{vs:List Expr}{tk tv:TE}{trs:List (TE×TE)}(hk:PE X k tk)(hv:PE X v tv)(hr:PPs X pos ks vs trs) :
  PPs X pos (some k::ks) (v::vs) ((tk,tv)::trs):=fun pins s σ H Q I h =>
 pairTrees_cons_walk (wQ (hk pins s σ H _ I h) fun u s1 ⟨x,H1,I1,rx,q1⟩=>wQ (hv pins s1 σ H1 _ I1 q1) fun w2 s2 ⟨y,H2,I2,ry,q2⟩ =>
  wQ (hr pins s2 σ H2 _ I2 q2) fun ws s3 ⟨ps,H3,I3,rel,q3⟩=>⟨(x,y)::ps,H3,I3,.cons ⟨rx,ry⟩ rel,q3⟩)
def Wv (kvs more:List (Key×V)):List (Key×V):=more.foldl (fun acc kv=>putK acc kv.1 kv.2) kvs
theorem KV.merge:∀{more:List (Key×V)} {rs:List (Key×Value)} {kvs:List (Key×V)} {vs:List (Key×Value)},KV more rs->KV kvs vs->KV (Wv kvs more) (merged vs rs):=by
 intro more rs kvs vs r
 unfold KV at r
 induction r generalizing kvs vs with
 | nil=>intro q;exact q
 | @cons p q ps qs h t ih =>
  intro r0
  have e:KV (putK kvs p.1 p.2) (stored vs q.1 q.2):=by
   have:=r0.put p.1 h.2
   rw[<-h.1];exact this
  exact ih e
theorem Rn:∀(more kvs:List (Key×V)),(Wv kvs more).length<=kvs.length+more.length
 | [],kvs=>by show kvs.length<=kvs.length+0;omega
 | p::r,kvs=>by
  have h1:=Rn r (putK kvs p.1 p.2)
  have h2:=X3 kvs p.1 p.2
  show(Wv (putK kvs p.1 p.2) r).length<=_
  rw[zrE];omega
theorem JQ {P:Program}{w:World}:∀{kvs:List (Key×V)} {ws:List (Value×Value)},VV (kvs.map fun kv=>(kV kv.1,kv.2)) ws->∃rs,Carries (yc P w) ws rs/\KV kvs rs
 | [],_,r=>by rw[List.map_nil] at r;cases r;exact⟨[],True.intro,.nil⟩
 | p::kvs,_,r=>by
  rw[zrR] at r
  cases r with
  | @cons a b as bs h t =>
   obtain⟨rs,c,q⟩:=JQ (P:=P) (w:=w) t
   obtain⟨b1,b2⟩:=b
   exact⟨(p.1,b2)::rs,⟨JN h.1,rfl,c⟩,.cons ⟨rfl,h.2⟩ q⟩
def zmm (trs:List (TE×TE)):TE:=fun σ H Q=>∀p,H p=none->zeE trs σ (upd H p (.dK [])) fun ps H2=>H2 p=some (.dK [])/\∃kvs:List (Key×V),ps=kvs.map (fun kv=>(kV kv.1,kv.2))/\kvs.length<=15/\Q (.ref p) (upd H2 p (.dK (Wv [] kvs)))
theorem zi5 {X:Cx}{pos:Pos}{keys:List (Option Expr)}{values:List Expr}{trs:List (TE×TE)}(h:PPs X pos keys values trs)(hall:keys.all (·.isSome)=true)(hl:keys.length=values.length)(h0:keys≠[])
  (h15:keys.length<=15):PE X (.Dict keys values pos) (zmm trs):=by
 intro pins s σ H Q I q
 have hn:=I.hok.fresh (zrI s.heap.objs.size)
 have I1:=I.laid (a:=s.heap.objs.size) (o:=.dK []) (h':=s.heap.push { cls:=.type "dict", data:=.dict #[] }) (t':=s.toks) (fun _ _ q=>zry _ q) (zrI _) (zdj s.heap I.big)
 refine wpAny_Dict_walk (knd:=yc X.prog X.w) hall hl h0 h15 (wQ (h pins _ σ _ _ I1 (q _ hn)) fun ws s2 ⟨ps,H2,I2,rel,e,kvs,ep,lk,q2⟩=>?_)
 subst ep
 obtain⟨rs,c,rk⟩:=JQ (P:=X.prog) (w:=X.w) rel
 obtain⟨z,hd,vs0,r0,dd⟩:=zfB I2.hok e
 cases r0
 refine⟨rs,c,dd,fun h' dd' hs=>⟨.ref s.heap.objs.size,_,?_,rfl,q2⟩⟩
 have hz:(Wv [] kvs).length<=sizeLine:=by
  have h1:=Rn kvs []
  rw[List.length_nil] at h1
  rw[sizeLine_eq];omega
 have he:∃q,h'.get? s.heap.objs.size=some q:=let ⟨q,_,_,hq,_⟩:=dd';⟨q,hq⟩
 exact Q6 I2 (by rw[e];exact True.intro) hs he (zb6 hz hd (rk.merge .nil) dd')
inductive RQ (K:Frag)(H:Hp):Nat->V->V->Bool->Prop
 | flat {n:Nat} {x y:V} (fx:wD x=true) (fy:wD y=true):RQ K H n x y (eqV x y)
 | tt {n:Nat} {p q:Addr} {xs ys:List V} {e:Nat->Bool} (hp:vp K H p xs) (hq:vp K H q ys) (h:∀(j:Nat) x y,xs[j]?=some x->ys[j]?=some y->RQ K H n x y (e j)) :
   RQ K H (n+1) (.ref p) (.ref q) ((List.range (min xs.length ys.length)).all e&&xs.length==ys.length)
 | ll {n:Nat} {p q:Addr} {xs ys:List V} {e:Nat->Bool} (hp:zX K H p xs) (hq:zX K H q ys) (hl:xs.length=ys.length) (h:∀(j:Nat) x y,xs[j]?=some x->ys[j]?=some y->RQ K H n x y (e j)) :
   RQ K H (n+1) (.ref p) (.ref q) ((List.range xs.length).all e)
 | ln {n:Nat} {p q:Addr} {xs ys:List V} (hp:zX K H p xs) (hq:zX K H q ys) (hl:xs.length≠ys.length):RQ K H (n+1) (.ref p) (.ref q) false
 | lt {n:Nat} {p q:Addr} {xs ys:List V} (hp:zX K H p xs) (hq:vp K H q ys):RQ K H (n+1) (.ref p) (.ref q) false
 | tl {n:Nat} {p q:Addr} {xs ys:List V} (hp:vp K H p xs) (hq:zX K H q ys):RQ K H (n+1) (.ref p) (.ref q) false
 | lf {n:Nat} {p:Addr} {xs:List V} {y:V} (hp:zX K H p xs) (fy:wD y=true):RQ K H (n+1) (.ref p) y false
 | fl {n:Nat} {p:Addr} {xs:List V} {y:V} (hp:zX K H p xs) (fy:wD y=true):RQ K H (n+1) y (.ref p) false
 | tf {n:Nat} {p:Addr} {xs:List V} {y:V} (hp:vp K H p xs) (fy:wD y=true):RQ K H (n+1) (.ref p) y false
 | ft {n:Nat} {p:Addr} {xs:List V} {y:V} (hp:vp K H p xs) (fy:wD y=true):RQ K H (n+1) y (.ref p) false
section
variable {X:Cx}{pins:List (Addr×Obj)}{σ:St}{H:Hp}{s:Shared}
theorem zdm {x:V}(f:wD x=true):eqV x x=true:=by
 cases x<;>first | rfl | (simp[eqV];done) | exact absurd (show false=true from f) zrw
theorem U3 (I:Inv X pins σ H s){p:Addr}{xs ys:List V}(h:zX X.K H p xs)(k:vp X.K H p ys):False:=by
 obtain⟨_,_,⟨o,n,e,c,_⟩,_⟩:=I.list h
 obtain⟨_,_,⟨o',e',c',_⟩,_⟩:=I.tuple k
 rw[e] at e'
 cases e'
 rw[c] at c'
 injection c' with z
 exact absurd z (by decide)
theorem RQ.refl (I:Inv X pins σ H s){n:Nat}{x y:V}{b:Bool}(h:RQ X.K H n x y b):x=y->b=true:=by
 induction h with
 | flat fx fy=>intro e;subst e;exact zdm fx
 | tt hp hq h ih =>
  intro e
  cases e
  have ee:=I.za0 hp hq
  subst ee
  rw[Nat.min_self,beq_self_eq_true,Bool.and_true,zrW]
  intro j hj
  have hj':=List.mem_range.mp hj
  exact ih j _ _ (zrt hj') (zrt hj') rfl
 | ll hp hq hl h ih =>
  intro e
  cases e
  have ee:=I.WY hp hq
  subst ee
  rw[zrW]
  intro j hj
  have hj':=List.mem_range.mp hj
  exact ih j _ _ (zrt hj') (zrt hj') rfl
 | ln hp hq hl =>
  intro e
  cases e
  exact absurd (congrArg List.length (I.WY hp hq)) hl
 | lt hp hq=>intro e;cases e;exact(U3 I hp hq).elim
 | tl hp hq=>intro e;cases e;exact(U3 I hq hp).elim
 | lf hp fy=>intro e;subst e;exact absurd (show false=true from fy) zrw
 | fl hp fy=>intro e;subst e;exact absurd (show false=true from fy) zrw
 | tf hp fy=>intro e;subst e;exact absurd (show false=true from fy) zrw
 | ft hp fy=>intro e;subst e;exact absurd (show false=true from fy) zrw
theorem Sw {A:Around}{u:Value}{y:V}{p:Addr}{its:Array Value}(hl:s.heap.IsList p its)(fy:wD y=true)(ry:RelV y u)(hu:A.units<cLine):SeqAt.RcAt A s (.ref p) u false/\SeqAt.EqAt A s (.ref p) u false/\SeqAt.RcAt A s u (.ref p) false/\SeqAt.EqAt A s u (.ref p) false/\SeqAt.RcNeAt A s (.ref p) u true/\SeqAt.RcNeAt A s u (.ref p) true:=by
 cases y with
 | non=>cases ry;exact⟨.list_none hl hu,.list_none hl hu,.none_list hl hu,.none_list hl hu,.list_none hl hu,.none_list hl hu⟩
 | bl b=>cases ry;exact⟨.list_bool b hl hu,.list_bool b hl hu,.bool_list b hl hu,.bool_list b hl hu,.list_bool b hl hu,.bool_list b hl hu⟩
 | int i=>obtain⟨t,rfl⟩:=ry;exact⟨.list_int i t hl hu,.list_int i t hl hu,.int_list i t hl hu,.int_list i t hl hu,.list_int i t hl hu,.int_list i t hl hu⟩
 | str i=>obtain⟨t,rfl⟩:=ry;exact⟨.list_str i t hl hu,.list_str i t hl hu,.str_list i t hl hu,.str_list i t hl hu,.list_str i t hl hu,.str_list i t hl hu⟩
 | _=>exact absurd (show false=true from fy) zrw
theorem VG {A:Around}{u:Value}{y:V}{p:Addr}{its:Array Value}(hl:s.heap.IsTuple p its)(fy:wD y=true)(ry:RelV y u)(hu:A.units<cLine):SeqAt.RcAt A s (.ref p) u false/\SeqAt.EqAt A s (.ref p) u false/\SeqAt.RcAt A s u (.ref p) false/\SeqAt.EqAt A s u (.ref p) false/\SeqAt.RcNeAt A s (.ref p) u true/\SeqAt.RcNeAt A s u (.ref p) true:=by
 cases y with
 | non=>cases ry;exact⟨.tuple_none hl hu,.tuple_none hl hu,.none_tuple hl hu,.none_tuple hl hu,.tuple_none hl hu,.none_tuple hl hu⟩
 | bl b=>cases ry;exact⟨.tuple_bool b hl hu,.tuple_bool b hl hu,.bool_tuple b hl hu,.bool_tuple b hl hu,.tuple_bool b hl hu,.bool_tuple b hl hu⟩
 | int i=>obtain⟨t,rfl⟩:=ry;exact⟨.tuple_int i t hl hu,.tuple_int i t hl hu,.int_tuple i t hl hu,.int_tuple i t hl hu,.tuple_int i t hl hu,.int_tuple i t hl hu⟩
 | str i=>obtain⟨t,rfl⟩:=ry;exact⟨.tuple_str i t hl hu,.tuple_str i t hl hu,.str_tuple i t hl hu,.str_tuple i t hl hu,.tuple_str i t hl hu,.str_tuple i t hl hu⟩
 | _=>exact absurd (show false=true from fy) zrw
theorem item_at {xs:List V}{us:List Value}(r:Vals xs us){j:Nat}(h:j<us.toArray.size):∃x,xs[j]?=some x/\RelV x us.toArray[j]:=by
 have hl:=r.length
 have hj:j<xs.length:=by simp at h;omega
 obtain⟨u,hu,ru⟩:=r.get (zrt hj)
 refine⟨xs[j],zrt hj,?_⟩
 have e:us.toArray[j]=u:=by
  have:=(zrv.mp hu).2
  simpa using this
 rw[e];exact ru
theorem RQ.at {n:Nat}{x y:V}{b:Bool}(h:RQ X.K H n x y b)(I:Inv X pins σ H s):∀{A:Around} {u v:Value},RelV x u->RelV y v->A.units+n<cLine->SeqAt.EqAt A s u v b:=by
 induction h with
 | flat fx fy=>intro A u v rx ry _;exact zg1 rx ry fx fy
 | @tt n p q xs ys e hp hq h ih =>
  intro A u v rx ry hu
  cases rx
  cases ry
  obtain⟨us,r1,t1,_⟩:=I.tuple hp
  obtain⟨ws,r2,t2,_⟩:=I.tuple hq
  have l1:=r1.length
  have l2:=r2.length
  by_cases hne:p=q
  ·subst hne
   have z:=(RQ.tt hp hq h).refl I rfl
   rw[z]
   exact SeqAt.EqAt.same _
  ·refine SeqAt.EqAt.of_refs hne ?_
   have z:=SeqAt.RcAt.tuples (A:=A) (e:=e) t1 t2 (by omega) fun j h1 h2=>by
    obtain⟨x,hx,rx⟩:=item_at r1 h1
    obtain⟨y,hy,ry⟩:=item_at r2 h2
    exact ih j x y hx hy rx ry (by show A.units+1+n<cLine;omega)
   rw[zrC,zrC,<-l1,<-l2] at z
   exact z
 | @ll n p q xs ys e hp hq hl h ih =>
  intro A u v rx ry hu
  cases rx
  cases ry
  obtain⟨us,r1,t1,_⟩:=I.list hp
  obtain⟨ws,r2,t2,_⟩:=I.list hq
  have l1:=r1.length
  have l2:=r2.length
  by_cases hne:p=q
  ·subst hne
   have z:=(RQ.ll hp hq hl h).refl I rfl
   rw[z]
   exact SeqAt.EqAt.same _
  ·refine SeqAt.EqAt.of_refs hne ?_
   have z:=SeqAt.RcAt.lists (A:=A) (e:=e) t1.isList t2.isList (by simp;omega) (by omega) fun j h1 h2=>by
    obtain⟨x,hx,rx⟩:=item_at r1 h1
    obtain⟨y,hy,ry⟩:=item_at r2 h2
    exact ih j x y hx hy rx ry (by show A.units+1+n<cLine;omega)
   rw[zrC,<-l1] at z
   exact z
 | @ln n p q xs ys hp hq hl =>
  intro A u v rx ry hu
  cases rx
  cases ry
  obtain⟨us,r1,t1,_⟩:=I.list hp
  obtain⟨ws,r2,t2,_⟩:=I.list hq
  have l1:=r1.length
  have l2:=r2.length
  have hne:p≠q:=fun e=>by subst e;exact hl (congrArg List.length (I.WY hp hq))
  exact SeqAt.EqAt.of_refs hne (SeqAt.RcAt.lists_lengths t1.isList t2.isList (by simp;omega) (by omega))
 | lt hp hq =>
  intro A u v rx ry hu
  cases rx
  cases ry
  obtain⟨us,r1,t1,_⟩:=I.list hp
  obtain⟨ws,r2,t2,_⟩:=I.tuple hq
  exact SeqAt.EqAt.list_tuple t1.isList t2 (by omega)
 | tl hp hq =>
  intro A u v rx ry hu
  cases rx
  cases ry
  obtain⟨us,r1,t1,_⟩:=I.tuple hp
  obtain⟨ws,r2,t2,_⟩:=I.list hq
  exact SeqAt.EqAt.tuple_list t1 t2.isList (by omega)
 | lf hp fy =>
  intro A u v rx ry hu
  cases rx
  obtain⟨us,r1,t1,_⟩:=I.list hp
  exact(Sw t1.isList fy ry (by omega)).2.1
 | fl hp fy =>
  intro A u v rx ry hu
  cases ry
  obtain⟨us,r1,t1,_⟩:=I.list hp
  exact(Sw t1.isList fy rx (by omega)).2.2.2.1
 | tf hp fy =>
  intro A u v rx ry hu
  cases rx
  obtain⟨us,r1,t1,_⟩:=I.tuple hp
  exact(VG t1 fy ry (by omega)).2.1
 | ft hp fy =>
  intro A u v rx ry hu
  cases ry
  obtain⟨us,r1,t1,_⟩:=I.tuple hp
  exact(VG t1 fy rx (by omega)).2.2.2.1
theorem RQ.rc {n:Nat}{x y:V}{b:Bool}(h:RQ X.K H n x y b)(I:Inv X pins σ H s)(hn:¬(wD x=true/\wD y=true)){A:Around}{u v:Value}(rx:RelV x u)(ry:RelV y v)(hu:A.units+n<cLine):SeqAt.RcAt A s u v b/\SeqAt.RcNeAt A s u v (!b):=by
 cases h with
 | flat fx fy=>exact absurd ⟨fx,fy⟩ hn
 | @tt n p q xs ys e hp hq h =>
  cases rx
  cases ry
  obtain⟨us,r1,t1,_⟩:=I.tuple hp
  obtain⟨ws,r2,t2,_⟩:=I.tuple hq
  have l1:=r1.length
  have l2:=r2.length
  have he:∀j (h1:j<us.toArray.size) (h2:j<ws.toArray.size),SeqAt.EqAt A.in1 s us.toArray[j] ws.toArray[j] (e j):=fun j h1 h2=>by
   obtain⟨x,hx,rx⟩:=item_at r1 h1
   obtain⟨y,hy,ry⟩:=item_at r2 h2
   exact(h j x y hx hy).at I rx ry (by show A.units+1+n<cLine;omega)
  have z:=SeqAt.RcAt.tuples (A:=A) (e:=e) t1 t2 (by omega) he
  have z2:=SeqAt.RcNeAt.tuples (A:=A) (e:=e) t1 t2 (by omega) he
  rw[zrC,zrC,<-l1,<-l2] at z z2
  exact⟨z,z2⟩
 | @ll n p q xs ys e hp hq hl h =>
  cases rx
  cases ry
  obtain⟨us,r1,t1,_⟩:=I.list hp
  obtain⟨ws,r2,t2,_⟩:=I.list hq
  have l1:=r1.length
  have l2:=r2.length
  have he:∀j (h1:j<us.toArray.size) (h2:j<ws.toArray.size),SeqAt.EqAt A.in1 s us.toArray[j] ws.toArray[j] (e j):=fun j h1 h2=>by
   obtain⟨x,hx,rx⟩:=item_at r1 h1
   obtain⟨y,hy,ry⟩:=item_at r2 h2
   exact(h j x y hx hy).at I rx ry (by show A.units+1+n<cLine;omega)
  have z:=SeqAt.RcAt.lists (A:=A) (e:=e) t1.isList t2.isList (by simp;omega) (by omega) he
  have z2:=SeqAt.RcNeAt.lists (A:=A) (e:=e) t1.isList t2.isList (by simp;omega) (by omega) he
  rw[zrC,<-l1] at z z2
  exact⟨z,z2⟩
 | @ln n p q xs ys hp hq hl =>
  cases rx
  cases ry
  obtain⟨us,r1,t1,_⟩:=I.list hp
  obtain⟨ws,r2,t2,_⟩:=I.list hq
  have l1:=r1.length
  have l2:=r2.length
  exact⟨SeqAt.RcAt.lists_lengths t1.isList t2.isList (by simp;omega) (by omega),SeqAt.RcNeAt.lists_lengths t1.isList t2.isList (by simp;omega) (by omega)⟩
 | lt hp hq =>
  cases rx
  cases ry
  obtain⟨us,r1,t1,_⟩:=I.list hp
  obtain⟨ws,r2,t2,_⟩:=I.tuple hq
  exact⟨SeqAt.RcAt.list_tuple t1.isList t2 (by omega),SeqAt.RcNeAt.list_tuple t1.isList t2 (by omega)⟩
 | tl hp hq =>
  cases rx
  cases ry
  obtain⟨us,r1,t1,_⟩:=I.tuple hp
  obtain⟨ws,r2,t2,_⟩:=I.list hq
  exact⟨SeqAt.RcAt.tuple_list t1 t2.isList (by omega),SeqAt.RcNeAt.tuple_list t1 t2.isList (by omega)⟩
 | lf hp fy =>
  cases rx
  obtain⟨us,r1,t1,_⟩:=I.list hp
  have z:=Sw (A:=A) t1.isList fy ry (by omega)
  exact⟨z.1,z.2.2.2.2.1⟩
 | fl hp fy =>
  cases ry
  obtain⟨us,r1,t1,_⟩:=I.list hp
  have z:=Sw (A:=A) t1.isList fy rx (by omega)
  exact⟨z.2.2.1,z.2.2.2.2.2⟩
 | tf hp fy =>
  cases rx
  obtain⟨us,r1,t1,_⟩:=I.tuple hp
  have z:=VG (A:=A) t1 fy ry (by omega)
  exact⟨z.1,z.2.2.2.2.1⟩
 | ft hp fy =>
  cases ry
  obtain⟨us,r1,t1,_⟩:=I.tuple hp
  have z:=VG (A:=A) t1 fy rx (by omega)
  exact⟨z.2.2.1,z.2.2.2.2.2⟩
end
section
variable {X:Cx}
theorem zhs {K:Frag}(hK:X.K=K)(hu:X.A.units+8<cLine):Uq X (compareOp .NotEq) (fun x y H Q=>∃b,¬(wD x=true/\wD y=true)/\RQ K H 8 x y b/\Q (.bl (!b)) H):=by
 subst hK
 intro pins s σ H x y v u Q I rx ry h
 obtain⟨b,hn,he,q⟩:=h
 exact(he.rc I hn rx ry hu).2 X.prog X.w X.xe _ ⟨.bl (!b),H,I,rfl,q⟩
theorem hu8 {A:Around}{k:Nat}(hr:Zc k A):A.units+8<cLine:=by have:=hr.units;omega
theorem Q7:∀{xs:List V} {us:List Value},xs.length=us.length->(∀(j:Nat) u,us[j]?=some u->∃x,xs[j]?=some x/\RelV x u)->Vals xs us
 | [],[],_,_=>.nil
 | [],_::_,h,_=>by simp at h
 | _::_,[],h,_=>by simp at h
 | x::xs,u::us,hl,h=>by
  obtain⟨x',e,r⟩:=h 0 u rfl
  cases e
  refine .cons r (Q7 (by simpa using hl) fun j v hv=>?_)
  obtain⟨y,e,r⟩:=h (j+1) v (by simpa using hv)
  exact⟨y,by simpa using e,r⟩
theorem U4 (hc:X.calm=true):YF X (.type "list") (fun xs H Q=>∃(p:Addr) (kvs:List (Key×V)),xs=[.ref p]/\H p=some (.dK kvs)/\∀l,H l=none->Q (.ref l) (upd H l (.lst (kvs.map fun e=>kV e.1)))):=by
 intro pins s σ H xs us Q I r h
 obtain⟨p,kvs,rfl,hp,q⟩:=h
 obtain⟨u,rfl,rx⟩:=vals1 r
 cases rx
 obtain⟨hz,lo,vs,rv,hD⟩:=(show kvs.length<=sizeLine/\(p==sysModules)=false/\∃vs,KV kvs vs/\s.heap.DictOf (yc X.prog X.w) p vs from I.hok p _ hp)
 obtain⟨ep,hat⟩:=hD.dictAt
 have hl:kvs.length=vs.length:=Paired.length rv
 refine PySem.W.kdl_call (PySem.W.kdl_dict (knd:=yc X.prog X.w) (kvs:=vs) (ep:=ep) lo) (I.ok.hd hc) hat (by omega) fun h' tk acc c hk hS hacc=>?_
 refine⟨.ref s.heap.objs.size,_,I.laid (o:=.lst (kvs.map fun e=>kV e.1)) hk (zrI _) ?_,rfl,q _ (I.hok.fresh (zrI _))⟩
 refine⟨by rw[zrs];exact hz,acc.toList,c,?_,by simpa using hS⟩
 refine Q7 (by rw[zrs];have:=hacc.1;simp;omega) fun j v hv=>?_
 obtain⟨k,x,hx,hkv⟩:=hacc.2 j v (by rw[<-Array.getElem?_toList];exact hv)
 obtain⟨y,hy,e1,_⟩:=QV rv hx
 refine⟨kV y.1,by rw[zru,hy];rfl,?_⟩
 rw[e1]
 rcases xq (k:=k) (v:=v) hkv with ⟨i,t,rfl,rfl⟩ | ⟨z,t,rfl,rfl⟩
 ·exact⟨_,rfl⟩
 ·exact⟨_,rfl⟩
end
end L2
namespace yF
abbrev Rm:=Option (Nat×Nat×Nat)
def Vt (n:Nat)(rs:List Rm)(k:Nat):Nat:=match rs[k]? with
 | some (some (i,_,_))=>i
 | _=>n
structure Bk (n:Nat)(rs:List Rm):Prop where
 h0:rs[0]?=some none
 h1:rs[1]?=some none
 rm:∀k,2<=k->k<rs.length->∃i lo hi,rs[k]?=some (some (i,lo,hi))/\i<n/\lo<k/\hi<k/\lo≠hi/\i<Vt n rs lo/\i<Vt n rs hi
 uq:∀(k l:Nat) (x:Nat×Nat×Nat),rs[k]?=some (some x)->rs[l]?=some (some x)->k=l
abbrev Row:=Nat->Bool
def put (r:Row)(i:Nat)(v:Bool):Row:=fun j=>if j=i then v else r j
def lead (rs:List Rm)(r:Row):Nat->Nat->Nat
 | 0,k=>k
 | f+1,k=>match rs[k]? with
  | some (some (i,lo,hi))=>lead rs r f (if r i then hi else lo)
  | _=>k
theorem zbl {n:Nat}{rs:List Rm}(B:Bk n rs)(r:Row):∀(f g k:Nat),k<=f->k<=g->k<rs.length->lead rs r f k=lead rs r g k
 | 0,0,k,_,_,_=>rfl
 | 0,g+1,k,h,_,_=>by
  have e:k=0:=by omega
  subst e
  show 0=lead rs r (g+1) 0
  unfold lead
  rw[B.h0]
 | f+1,0,k,_,h,_=>by
  have e:k=0:=by omega
  subst e
  show lead rs r (f+1) 0=0
  unfold lead
  rw[B.h0]
 | f+1,g+1,k,hf,hg,hk=>by
  by_cases h2:2<=k
  ·obtain⟨i,lo,hi,e,_,hlo,hhi,_⟩:=B.rm k h2 hk
   unfold lead
   rw[e]
   show lead rs r f (if r i then hi else lo)=lead rs r g (if r i then hi else lo)
   refine zbl B r f g _ ?_ ?_ ?_<;>(split<;>omega)
  ·have:k=0\/k=1:=by omega
   rcases this with e | e<;>subst e<;>unfold lead
   ·rw[B.h0]
   ·rw[B.h1]
def yes (rs:List Rm)(k:Nat)(r:Row):Bool:=lead rs r k k==1
section
variable {n:Nat}{rs:List Rm}(B:Bk n rs)
include B
theorem len2:2<=rs.length:=by
 have:=(zrv.mp B.h1).1
 omega
theorem zht (r:Row):yes rs 0 r=false:=rfl
theorem Sx (r:Row):yes rs 1 r=true:=by
 unfold yes lead
 rw[B.h1]
 rfl
theorem zgl {k i lo hi:Nat}(e:rs[k]?=some (some (i,lo,hi)))(r:Row):lead rs r k k=lead rs r (if r i then hi else lo) (if r i then hi else lo):=by
 have hk:=(zrv.mp e).1
 have k2:2<=k:=by
  by_cases h:2<=k
  ·exact h
  ·exfalso
   have:k=0\/k=1:=by omega
   rcases this with z | z<;>subst z
   ·rw[B.h0] at e;cases e
   ·rw[B.h1] at e;cases e
 obtain⟨i',lo',hi',e',_,hlo,hhi,_⟩:=B.rm k k2 hk
 rw[e] at e'
 cases e'
 obtain⟨m,rfl⟩:∃m,k=m+1:=⟨k-1,by omega⟩
 show(match rs[m+1]? with | some (some (i,lo,hi))=>lead rs r m (if r i then hi else lo) | _=>m+1)=_
 rw[e]
 show lead rs r m (if r i then hi else lo)=_
 refine zbl B r _ _ _ ?_ (zrI _) ?_<;>(split<;>omega)
theorem U5 {k i lo hi:Nat}(e:rs[k]?=some (some (i,lo,hi)))(r:Row):yes rs k r=if r i then yes rs hi r else yes rs lo r:=by
 unfold yes
 rw[zgl B e r]
 split<;>rfl
theorem Ww {k i lo hi:Nat}(e:rs[k]?=some (some (i,lo,hi))):Vt n rs k=i:=by unfold Vt;rw[e]
theorem zeF:Vt n rs 0=n:=by unfold Vt;rw[B.h0]
theorem zb8:Vt n rs 1=n:=by unfold Vt;rw[B.h1]
theorem W6:∀(m k:Nat),k<=m->k<rs.length->∀{r r':Row},(∀i,Vt n rs k<=i->i<n->r i=r' i)->yes rs k r=yes rs k r'
 | m,k,hm,hk,r,r',h=>by
  by_cases h2:2<=k
  ·obtain⟨i,lo,hi,e,hin,hlo,hhi,_,l1,l2⟩:=B.rm k h2 hk
   have lk:=Ww B e
   rw[U5 B e,U5 B e,h i (by omega) hin]
   match m,hm with
   | 0,hm=>omega
   | m+1,hm =>
    rw[W6 m hi (by omega) (by omega) fun j hj hjn=>h j (by omega) hjn,W6 m lo (by omega) (by omega) fun j hj hjn=>h j (by omega) hjn]
  ·have:k=0\/k=1:=by omega
   rcases this with z | z<;>subst z
   ·rfl
   ·rw[Sx B,Sx B]
theorem Zi {k i:Nat}(hk:k<rs.length)(h:i<Vt n rs k)(r:Row)(v:Bool):yes rs k (put r i v)=yes rs k r:=by
 refine W6 B k k (zrI _) hk fun j hj _=>?_
 unfold put
 rw[if_neg (by omega)]
theorem VH {k i lo hi:Nat}(e:rs[k]?=some (some (i,lo,hi)))(hk:k<rs.length)(r:Row):yes rs k (put r i false)=yes rs lo r/\yes rs k (put r i true)=yes rs hi r:=by
 have k2:2<=k:=by
  by_cases h:2<=k
  ·exact h
  ·exfalso
   have:k=0\/k=1:=by omega
   rcases this with z | z<;>subst z
   ·rw[B.h0] at e;cases e
   ·rw[B.h1] at e;cases e
 obtain⟨i',lo',hi',e',_,hlo,hhi,_,l1,l2⟩:=B.rm k k2 hk
 rw[e] at e'
 cases e'
 constructor
 ·rw[U5 B e]
  have z:put r i false i=false:=by unfold put;rw[if_pos rfl]
  rw[z,if_neg zrw]
  exact Zi B (by omega) l1 r false
 ·rw[U5 B e]
  have z:put r i true i=true:=by unfold put;rw[if_pos rfl]
  rw[z,if_pos rfl]
  exact Zi B (by omega) l2 r true
theorem Zj:∀(m k l:Nat),(k<=m/\l<=m)->k<rs.length->l<rs.length->(∀r,yes rs k r=yes rs l r)->k=l
 | m,k,l,hm,hk,hl,h=>by
  by_cases k2:2<=k
  ·obtain⟨i,lo,hi,e,hin,hlo,hhi,hne,l1,l2⟩:=B.rm k k2 hk
   by_cases l2':2<=l
   ·obtain⟨j,lo',hi',e',hjn,hlo',hhi',hne',l1',l2''⟩:=B.rm l l2' hl
    match m,hm with
    | 0,hm=>omega
    | m+1,hm =>
     rcases Nat.lt_trichotomy i j with q | q | q
     ·exfalso
      refine hne (Zj m lo hi (by omega) (by omega) (by omega) fun r=>?_)
      have z:=VH B e hk r
      rw[<-z.1,<-z.2,h,h,Zi B hl (by rw[Ww B e'];exact q),Zi B hl (by rw[Ww B e'];exact q)]
     ·subst q
      have a1:lo=lo':=Zj m lo lo' (by omega) (by omega) (by omega) fun r=>by rw[<-(VH B e hk r).1,<-(VH B e' hl r).1,h]
      have a2:hi=hi':=Zj m hi hi' (by omega) (by omega) (by omega) fun r=>by rw[<-(VH B e hk r).2,<-(VH B e' hl r).2,h]
      subst a1 a2
      exact B.uq k l _ e e'
     ·exfalso
      refine hne' (Zj m lo' hi' (by omega) (by omega) (by omega) fun r=>?_)
      have z:=VH B e' hl r
      rw[<-z.1,<-z.2,<-h,<-h,Zi B hk (by rw[Ww B e];exact q),Zi B hk (by rw[Ww B e];exact q)]
   ·exfalso
    match m,hm with
    | 0,hm=>omega
    | m+1,hm =>
     have ll:Vt n rs l=n:=by
      have:l=0\/l=1:=by omega
      rcases this with z | z<;>subst z
      ·exact zeF B
      ·exact zb8 B
     refine hne (Zj m lo hi (by omega) (by omega) (by omega) fun r=>?_)
     have z:=VH B e hk r
     rw[<-z.1,<-z.2,h,h,Zi B hl (by omega),Zi B hl (by omega)]
  ·by_cases l2':2<=l
   ·exfalso
    obtain⟨j,lo',hi',e',hjn,hlo',hhi',hne',l1',l2''⟩:=B.rm l l2' hl
    match m,hm with
    | 0,hm=>omega
    | m+1,hm =>
     have ll:Vt n rs k=n:=by
      have:k=0\/k=1:=by omega
      rcases this with z | z<;>subst z
      ·exact zeF B
      ·exact zb8 B
     refine hne' (Zj m lo' hi' (by omega) (by omega) (by omega) fun r=>?_)
     have z:=VH B e' hl r
     rw[<-z.1,<-z.2,<-h,<-h,Zi B hk (by omega),Zi B hk (by omega)]
   ·have a:k=0\/k=1:=by omega
    have b:l=0\/l=1:=by omega
    have z:=h fun _=>false
    rcases a with a | a<;>rcases b with b | b<;>subst a<;>subst b
    ·rfl
    ·rw[zht B,Sx B] at z;cases z
    ·rw[zht B,Sx B] at z;cases z
    ·rfl
end
theorem Zk {rs:List Rm}{x:Rm}{k:Nat}(h:k<rs.length):(rs++[x])[k]?=rs[k]?:=zrZ h
theorem U6 {n:Nat}{rs:List Rm}{x:Rm}{k:Nat}(h:k<rs.length):Vt n (rs++[x]) k=Vt n rs k:=by
 unfold Vt;rw[Zk h]
theorem Bk.snoc {n:Nat}{rs:List Rm}(B:Bk n rs){i lo hi:Nat}(hin:i<n)(hlo:lo<rs.length)(hhi:hi<rs.length)(hne:lo≠hi)(l1:i<Vt n rs lo)(l2:i<Vt n rs hi)(new:some (i,lo,hi)∉rs):Bk n (rs++[some (i,lo,hi)]) where
 h0:=by rw[Zk (by have:=len2 B;omega)];exact B.h0
 h1:=by rw[Zk (by have:=len2 B;omega)];exact B.h1
 rm:=fun k h2 hk=>by
  rw[zrA,zr0] at hk
  by_cases hlt:k<rs.length
  ·obtain⟨i',lo',hi',e,a1,a2,a3,a4,a5,a6⟩:=B.rm k h2 hlt
   exact⟨i',lo',hi',by rw[Zk hlt];exact e,a1,a2,a3,a4,by rw[U6 (by omega)];exact a5,by rw[U6 (by omega)];exact a6⟩
  ·have e:k=rs.length:=by omega
   subst e
   exact⟨i,lo,hi,by simp,hin,hlo,hhi,hne,by rw[U6 hlo];exact l1,by rw[U6 hhi];exact l2⟩
 uq:=fun k l x hk hl=>by
  have lk:=(zrv.mp hk).1
  have ll:=(zrv.mp hl).1
  rw[zrA,zr0] at lk ll
  have last:∀m,m=rs.length->(rs++[some (i,lo,hi)])[m]?=some (some x)->x=(i,lo,hi):=fun m hm h=>by
   subst hm
   simp at h
   exact h.symm
  by_cases h1:k<rs.length
  ·by_cases h2:l<rs.length
   ·rw[Zk h1] at hk
    rw[Zk h2] at hl
    exact B.uq k l x hk hl
   ·exfalso
    have e:=last l (by omega) hl
    subst e
    rw[Zk h1] at hk
    exact new (zrx hk)
  ·by_cases h2:l<rs.length
   ·exfalso
    have e:=last k (by omega) hk
    subst e
    rw[Zk h2] at hl
    exact new (zrx hl)
   ·omega
theorem zbm {n:Nat}{rs:List Rm}(B:Bk n rs){x:Rm}(r:Row):∀(f k:Nat),k<rs.length->lead (rs++[x]) r f k=lead rs r f k
 | 0,_,_=>rfl
 | f+1,k,hk=>by
  unfold lead
  rw[Zk hk]
  by_cases h2:2<=k
  ·obtain⟨i,lo,hi,e,_,hlo,hhi,_⟩:=B.rm k h2 hk
   rw[e]
   show lead (rs++[x]) r f (if r i then hi else lo)=lead rs r f (if r i then hi else lo)
   exact zbm B r f _ (by split<;>omega)
  ·have:k=0\/k=1:=by omega
   rcases this with z | z<;>subst z
   ·rw[B.h0]
   ·rw[B.h1]
theorem zdn {n:Nat}{rs:List Rm}(B:Bk n rs){x:Rm}{k:Nat}(hk:k<rs.length)(r:Row):yes (rs++[x]) k r=yes rs k r:=by
 unfold yes;rw[zbm B r k k hk]
def wN (rs rs':List Rm):Prop:=∃xs,rs'=rs++xs
theorem wN.refl (rs:List Rm):wN rs rs:=⟨[],by simp⟩
theorem wN.trans {a b c:List Rm}(h:wN a b)(k:wN b c):wN a c:=by
 obtain⟨x,rfl⟩:=h
 obtain⟨y,rfl⟩:=k
 exact⟨x++y,by rw[List.append_assoc]⟩
theorem wN.len {a b:List Rm}(h:wN a b):a.length<=b.length:=by
 obtain⟨x,rfl⟩:=h
 rw[zrA];omega
theorem wN.get {a b:List Rm}(h:wN a b){k:Nat}(hk:k<a.length):b[k]?=a[k]?:=by
 obtain⟨x,rfl⟩:=h
 exact zrZ hk
theorem wN.snoc (rs:List Rm)(x:Rm):wN rs (rs++[x]):=⟨[x],rfl⟩
theorem wN.Vt {n:Nat}{a b:List Rm}(h:wN a b){k:Nat}(hk:k<a.length):Vt n b k=Vt n a k:=by
 unfold yF.Vt;rw[h.get hk]
theorem wN.lead {n:Nat}{a b:List Rm}(B:Bk n a)(h:wN a b)(r:Row):∀(f k:Nat),k<a.length->lead b r f k=lead a r f k
 | 0,_,_=>rfl
 | f+1,k,hk=>by
  unfold yF.lead
  rw[h.get hk]
  by_cases h2:2<=k
  ·obtain⟨i,lo,hi,e,_,hlo,hhi,_⟩:=B.rm k h2 hk
   rw[e]
   show yF.lead b r f (if r i then hi else lo)=yF.lead a r f (if r i then hi else lo)
   exact wN.lead B h r f _ (by split<;>omega)
  ·have:k=0\/k=1:=by omega
   rcases this with z | z<;>subst z
   ·rw[B.h0]
   ·rw[B.h1]
theorem wN.yes {n:Nat}{a b:List Rm}(B:Bk n a)(h:wN a b){k:Nat}(hk:k<a.length)(r:Row):yes b k r=yes a k r:=by
 unfold yF.yes;rw[wN.lead B h r k k hk]
inductive Reach (rs:List Rm):Nat->Nat->Prop
 | refl (k:Nat):Reach rs k k
 | lo {k i lo hi j:Nat} (e:rs[k]?=some (some (i,lo,hi))) (h:Reach rs lo j):Reach rs k j
 | hi {k i lo hi j:Nat} (e:rs[k]?=some (some (i,lo,hi))) (h:Reach rs hi j):Reach rs k j
theorem Reach.step {rs:List Rm}{k j i lo hi:Nat}(h:Reach rs k j)(e:rs[j]?=some (some (i,lo,hi))):Reach rs k lo/\Reach rs k hi:=by
 induction h with
 | refl k=>exact⟨.lo e (.refl _),.hi e (.refl _)⟩
 | lo e' _ ih=>exact⟨.lo e' (ih e).1,.lo e' (ih e).2⟩
 | hi e' _ ih=>exact⟨.hi e' (ih e).1,.hi e' (ih e).2⟩
theorem Reach.closed {rs:List Rm}{S:Nat->Prop}{k j:Nat}(hk:S k)(hc:∀{m i lo hi},S m->rs[m]?=some (some (i,lo,hi))->S lo/\S hi)(h:Reach rs k j):S j:=by
 induction h with
 | refl k=>exact hk
 | lo e _ ih=>exact ih (hc hk e).1
 | hi e _ ih=>exact ih (hc hk e).2
theorem Reach.lt {n:Nat}{rs:List Rm}(B:Bk n rs){k j:Nat}(h:Reach rs k j):k<rs.length->j<rs.length:=by
 induction h with
 | refl k=>exact id
 | @lo k i lo hi j e _ ih =>
  intro hk
  refine ih ?_
  by_cases h2:2<=k
  ·obtain⟨i',lo',hi',e',_,a,b,_⟩:=B.rm k h2 hk
   rw[e] at e'
   cases e'
   omega
  ·exfalso
   have:k=0\/k=1:=by omega
   rcases this with z | z<;>subst z
   ·rw[B.h0] at e;cases e
   ·rw[B.h1] at e;cases e
 | @hi k i lo hi j e _ ih =>
  intro hk
  refine ih ?_
  by_cases h2:2<=k
  ·obtain⟨i',lo',hi',e',_,a,b,_⟩:=B.rm k h2 hk
   rw[e] at e'
   cases e'
   omega
  ·exfalso
   have:k=0\/k=1:=by omega
   rcases this with z | z<;>subst z
   ·rw[B.h0] at e;cases e
   ·rw[B.h1] at e;cases e
theorem few {n:Nat}{rs:List Rm}(B:Bk n rs):∀(m k:Nat),k<=m->k<rs.length->∃c:List Nat,c.length+1<=2^(n-Vt n rs k)/\∀j,Reach rs k j->j<2\/j∈c
 | m,k,hm,hk=>by
  by_cases h2:2<=k
  ·obtain⟨i,lo,hi,e,hin,hlo,hhi,_,l1,l2⟩:=B.rm k h2 hk
   match m,hm with
   | 0,hm=>omega
   | m+1,hm =>
    obtain⟨c1,a1,a2⟩:=few B m lo (by omega) (by omega)
    obtain⟨c2,b1,b2⟩:=few B m hi (by omega) (by omega)
    have lk:Vt n rs k=i:=Ww B e
    refine⟨k::(c1++c2),?_,fun j h=>?_⟩
    ·rw[lk,zrE,zrA]
     have p1:2^(n-Vt n rs lo)<=2^(n-i-1):=zrY (by decide) (by omega)
     have p2:2^(n-Vt n rs hi)<=2^(n-i-1):=zrY (by decide) (by omega)
     have p3:2^(n-i)=2^(n-i-1)+2^(n-i-1):=by
      obtain⟨d,hd⟩:∃d,n-i=d+1:=⟨n-i-1,by omega⟩
      rw[hd,Nat.pow_succ,Nat.add_sub_cancel]
      omega
     omega
    ·cases h with
     | refl _=>exact .inr zrM
     | lo e' h' =>
      rw[e] at e'
      cases e'
      rcases a2 j h' with z | z
      ·exact .inl z
      ·exact .inr (zrD _ (List.mem_append_left _ z))
     | hi e' h' =>
      rw[e] at e'
      cases e'
      rcases b2 j h' with z | z
      ·exact .inl z
      ·exact .inr (zrD _ (zrJ _ z))
  ·refine⟨[],Nat.one_le_two_pow,fun j h=>.inl ?_⟩
   have:k=0\/k=1:=by omega
   cases h with
   | refl _=>omega
   | lo e' _ =>
    exfalso
    rcases this with z | z<;>subst z
    ·rw[B.h0] at e';cases e'
    ·rw[B.h1] at e';cases e'
   | hi e' _ =>
    exfalso
    rcases this with z | z<;>subst z
    ·rw[B.h0] at e';cases e'
    ·rw[B.h1] at e';cases e'
theorem sub_len {α:Type}[DecidableEq α]:∀{xs ys:List α},xs.Nodup->(∀x∈xs,x∈ys)->xs.length<=ys.length
 | [],_,_,_=>zrP _
 | x::xs,ys,nd,h=>by
  obtain⟨h1,h2⟩:=List.nodup_cons.mp nd
  have hx:=h x zrM
  have ih:=sub_len (xs:=xs) (ys:=ys.erase x) h2 fun y hy=>(List.mem_erase_of_ne (fun e:y=x=>h1 (by rw[<-e];exact hy))).mpr (h y (zrD _ hy))
  rw[List.length_erase_of_mem hx] at ih
  have:=List.length_pos_of_mem hx
  rw[zrE]
  omega
theorem zgm {n:Nat}{rs:List Rm}(B:Bk n rs){k:Nat}(hk:k<rs.length){xs:List Nat}(nd:xs.Nodup)(h:∀x∈xs,Reach rs k x):xs.length<=2^n+1:=by
 obtain⟨c,c1,c2⟩:=few B k k (zrI _) hk
 have q:=sub_len (ys:=0::1::c) nd fun x hx=>by
  rcases c2 x (h x hx) with z | z
  ·have:x=0\/x=1:=by omega
   rcases this with w | w<;>simp[w]
  ·exact zrD _ (zrD _ z)
 have p:2^(n-Vt n rs k)<=2^n:=zrY (by decide) (by omega)
 rw[zrE,zrE] at q
 omega
theorem U7:∀{xs:List Int},xs.Pairwise (·<=·)->xs.Nodup->xs.Pairwise (·<·)
 | [],_,_=>.nil
 | x::xs,h,nd=>by
  obtain⟨a1,a2⟩:=List.pairwise_cons.mp h
  obtain⟨b1,b2⟩:=List.nodup_cons.mp nd
  refine List.pairwise_cons.mpr ⟨fun y hy=>?_,U7 a2 b2⟩
  have:=a1 y hy
  have:x≠y:=fun e=>b1 (e ▸ hy)
  omega
end yF
namespace uU
open PySem L2 yF
abbrev xu:=Addr->Prop
def zhu (F:xu)(H H':Hp):Prop:=∀x o,H x=some o->¬F x->H' x=some o
def zn1 (H:Hp)(F F':xu):Prop:=∀x,F' x->F x\/H x=none
def zbn:List Str:=["room", "size", "order", "enter", "worth_at", "below"]
structure W7 (C:Addr)(B:Hp->Addr->List Str->List Rm->xu->Prop):Prop where
 ins:∀{H b os rs F},B H b os rs F->∃dx fs,H b=some (.ins C dx fs)/\∀m∈zbn,fs.lookup m=none
 frame:∀{H H' b os rs F},B H b os rs F->(∀x o,H x=some o->F x->H' x=some o)->yH H H'->B H' b os rs F
 there:∀{H b os rs F x},B H b os rs F->F x->H x≠none
 bk:∀{H b os rs F},B H b os rs F->Bk os.length rs
 ord:∀{H b os rs F},B H b os rs F->QS os
theorem W7.same {C:Addr}{B:Hp->Addr->List Str->List Rm->xu->Prop}(L:W7 C B){H H':Hp}{b:Addr}{os:List Str}{rs:List Rm}{F:xu}(h:B H b os rs F)(g:Same H H'):B H' b os rs F :=
 L.frame h (fun x o e _=>g x o e) (yH.of g)
theorem W7.fresh {C:Addr}{B:Hp->Addr->List Str->List Rm->xu->Prop}(L:W7 C B){H:Hp}{b x:Addr}{os:List Str}{rs:List Rm}{F:xu}(h:B H b os rs F)(e:H x=none):¬F x:=fun q=>L.there h q e
def LK (os:List Str)(H:Hp)(x:Rm)(v:V):Prop:=match x with
 | none=>v=.non
 | some (i,lo,hi)=>∃(p:Addr) (y:Str),v=.ref p/\os[i]?=some y/\H p=some (.tup [.str y,.int (lo:Nat),.int (hi:Nat)])
theorem LK.mono {os:List Str}{H H':Hp}(g:yH H H'){x:Rm}{v:V}(h:LK os H x v):LK os H' x v:=by
 cases x with
 | none=>exact h
 | some t =>
  obtain⟨i,lo,hi⟩:=t
  obtain⟨p,y,e1,e2,e3⟩:=h
  exact⟨p,y,e1,e2,g _ _ e3⟩
def zhv (os:List Str)(r:Row):Str->Bool:=fun x=>r (ix os x)
section
variable (B:Hp->Addr->List Str->List Rm->xu->Prop)(K:Frag)(C:Addr)
inductive RT (vs:List V)(H:Hp)(Q:VK)(E9:XK):Prop
 | mk (b dx l:Addr) (os:List Str) (_:vs=[.ref b,.ref l]) (_:H b=some (.ins C dx [])) (_:b≠dx) (_:zX K H l (os.map V.str)) (_:QS os) (_:∀(H':Hp) (F:xu),(∀x o,H x=some o->x≠b->H' x=some o)->B H' b os [none,none] F->(∀x,F x->x=b\/x=dx\/H x=none)->Q .non H'):RT vs H Q E9
inductive VJ (vs:List V)(H:Hp)(Q:VK)(E9:XK):Prop
 | mk (b:Addr) (os:List Str) (rs:List Rm) (F:xu) (_:vs=[.ref b]) (_:B H b os rs F) (_:∀H',Same H H'->Q (.int (rs.length:Nat)) H'):VJ vs H Q E9
inductive vh (vs:List V)(H:Hp)(Q:VK)(E9:XK):Prop
 | mk (b:Addr) (os:List Str) (rs:List Rm) (F:xu) (_:vs=[.ref b]) (_:B H b os rs F) (_:∀(l:Addr) (H':Hp),Same H H'->H l=none->H' l=some (.lst (os.map V.str))->Q (.ref l) H'):vh vs H Q E9
inductive RV (vs:List V)(H:Hp)(Q:VK)(E9:XK):Prop
 | mk (b:Addr) (os:List Str) (rs:List Rm) (F:xu) (k:Nat) (x:Rm) (_:vs=[.ref b,.int k]) (_:B H b os rs F) (_:rs[k]?=some x) (_:∀(v:V) (H':Hp),Same H H'->LK os H' x v->Q v H'):RV vs H Q E9
end
def Xk (os:List Str)(H:Hp)(rs:List Rm)(vs:List V):Prop:=vs.length<=rs.length/\∀(j:Nat) v,vs[j]?=some v->∃x,rs[j]?=some x/\LK os H x v
theorem Xk.mono {os:List Str}{H H':Hp}(g:yH H H'){rs:List Rm}{vs:List V}(h:Xk os H rs vs):Xk os H' rs vs:=⟨h.1,fun j v e=>let ⟨x,a,b⟩:=h.2 j v e;⟨x,a,b.mono g⟩⟩
theorem zj4 {K:Frag}{H:Hp}{n:Nat}{p q:Addr}{xs ys:List V}(hp:zX K H p xs)(hq:zX K H q ys)(hl:xs.length=ys.length)(h:∀(j:Nat) x y,xs[j]?=some x->ys[j]?=some y->RQ K H n x y true):RQ K H (n+1) (.ref p) (.ref q) true:=by
 have z:=RQ.ll (e:=fun _=>true) hp hq hl h
 have e:(List.range xs.length).all (fun _=>true)=true:=by simp
 rw[e] at z
 exact z
theorem zb9 {K:Frag}{H:Hp}{n:Nat}{x:V}(f:wD x=true):RQ K H n x x true:=by
 have z:=RQ.flat (K:=K) (H:=H) (n:=n) f f
 rw[zdm f] at z
 exact z
theorem zmn {K:Frag}{H:Hp}{n:Nat}{p q:Addr}{xs:List V}(hp:vp K H p xs)(hq:vp K H q xs)(f:xs.all wD=true):RQ K H (n+1) (.ref p) (.ref q) true:=by
 have z:=RQ.tt (n:=n) (e:=fun _=>true) hp hq fun j x y hx hy=>by
  rw[hx] at hy
  cases hy
  exact zb9 (zrW.mp f x (zrx hx))
 have e:((List.range (min xs.length xs.length)).all (fun _=>true)&&xs.length==xs.length)=true:=by simp
 rw[e] at z
 exact z
theorem zi6 {K:Frag}{os:List Str}{H:Hp}{n:Nat}{x:Rm}{v u:V}(h:LK os H x v)(k:LK os H x u):RQ K H (n+1) v u true:=by
 cases x with
 | none =>
  have h':v=.non:=h
  have k':u=.non:=k
  subst h' k'
  exact zb9 rfl
 | some t =>
  obtain⟨i,lo,hi⟩:=t
  obtain⟨p,y,rfl,e1,e2⟩:=h
  obtain⟨q,y',rfl,e1',e2'⟩:=k
  rw[e1] at e1'
  cases e1'
  exact zmn (vp.of e2) (vp.of e2') rfl
end uU
namespace L2
open PySem PySem.Spec PyProof.Rows
theorem zgn:bootBuiltins "sorted"=some (.builtin "sorted"):=by decide +kernel
theorem zdo {κ:Type}[DecidableEq κ]{k:κ}:∀{kvs:List (κ×V)},(tL kvs k).isSome=decide (k∈kvs.map (·.1))
 | []=>rfl
 | p::r=>by
  by_cases e:p.1=k
  ·rw[wU e]
   exact(decide_eq_true (by rw[zrR,e];exact zrM)).symm
  ·rw[wF e,zdo (kvs:=r)]
   congr 1
   rw[zrR,List.mem_cons]
   exact propext ⟨.inr,fun h=>h.elim (fun z=>absurd z.symm e) id⟩
end L2
namespace yF
open L2
structure Dfs (rs:List Rm)(k0:Nat)(ks ts:List Nat):Prop where
 nd:ks.Nodup
 r1:∀x∈ks,Reach rs k0 x
 r2:∀x∈ts,Reach rs k0 x
 st:k0∈ks\/k0∈ts
 cl:∀m i lo hi,m∈ks->rs[m]?=some (some (i,lo,hi))->(lo∈ks\/lo∈ts)/\(hi∈ks\/hi∈ts)
 len:ts.length<=1+2*ks.length
theorem Dfs.start (rs:List Rm)(k0:Nat):Dfs rs k0 [] [k0]:=⟨List.nodup_nil,fun x h=>by simp at h,fun x h=>by rw[List.mem_singleton.mp h];exact .refl _,.inr zrM,fun m i lo hi h=>by simp at h,zrI _⟩
theorem Mt {ks ts:List Nat}{x y:Nat}(hx:x∈ks)(h:y∈ks\/y∈ts++[x]):y∈ks\/y∈ts:=by
 rcases h with h | h
 ·exact .inl h
 ·rcases List.mem_append.mp h with h | h
  ·exact .inr h
  ·rw[List.mem_singleton.mp h];exact .inl hx
theorem Dfs.skip {rs:List Rm}{k0 x:Nat}{ks ts:List Nat}(D:Dfs rs k0 ks (ts++[x]))(hx:x∈ks):Dfs rs k0 ks ts :=
 ⟨D.nd,D.r1,fun y h=>D.r2 y (List.mem_append_left _ h),Mt hx D.st,fun m i lo hi h e=>⟨Mt hx (D.cl m i lo hi h e).1,Mt hx (D.cl m i lo hi h e).2⟩,by have:=D.len;rw[zrA] at this;omega⟩
theorem zfE {ks:List Nat}{x:Nat}(h:ks.Nodup)(hx:x∉ks):(ks++[x]).Nodup:=by
 rw[List.nodup_append]
 refine⟨h,by simp,fun a ha b hb=>?_⟩
 rw[List.mem_singleton.mp hb]
 exact fun e=>hx (e ▸ ha)
theorem zeG {ks ts us:List Nat}{x y:Nat}(h:y∈ks\/y∈ts++[x]):y∈ks++[x]\/y∈ts++us:=by
 rcases h with h | h
 ·exact .inl (List.mem_append_left _ h)
 ·rcases List.mem_append.mp h with h | h
  ·exact .inr (List.mem_append_left _ h)
  ·exact .inl (zrJ _ h)
theorem Dfs.add {rs:List Rm}{k0 x:Nat}{ks ts:List Nat}(us:List Nat)(D:Dfs rs k0 ks (ts++[x]))(hx:x∉ks)(h1:∀y∈us,Reach rs k0 y)(h2:∀i lo hi,rs[x]?=some (some (i,lo,hi))->lo∈us/\hi∈us)(h3:us.length<=2):Dfs rs k0 (ks++[x]) (ts++us):=by
 refine⟨zfE D.nd hx,fun y h=>?_,fun y h=>?_,zeG D.st,fun m i lo hi h e=>?_,?_⟩
 ·rcases List.mem_append.mp h with h | h
  ·exact D.r1 y h
  ·exact D.r2 y (zrJ _ h)
 ·rcases List.mem_append.mp h with h | h
  ·exact D.r2 y (List.mem_append_left _ h)
  ·exact h1 y h
 ·rcases List.mem_append.mp h with h | h
  ·exact⟨zeG (D.cl m i lo hi h e).1,zeG (D.cl m i lo hi h e).2⟩
  ·rw[List.mem_singleton.mp h] at e
   exact⟨.inr (zrJ _ (h2 i lo hi e).1),.inr (zrJ _ (h2 i lo hi e).2)⟩
 ·have:=D.len
  rw[zrA,zr0] at this
  rw[zrA,zrA,zr0]
  omega
theorem Dfs.node {rs:List Rm}{k0 x i lo hi:Nat}{ks ts:List Nat}(D:Dfs rs k0 ks (ts++[x]))(hx:x∉ks)(e:rs[x]?=some (some (i,lo,hi))):Dfs rs k0 (ks++[x]) (ts++[lo,hi]):=by
 have r:=(D.r2 x (zrJ _ zrM)).step e
 refine D.add [lo,hi] hx (fun y h=>?_) (fun i' lo' hi' e'=>?_) (zrI _)
 ·simp at h
  rcases h with h | h<;>subst h
  ·exact r.1
  ·exact r.2
 ·rw[e] at e'
  cases e'
  exact⟨by simp,by simp⟩
theorem Dfs.done {rs:List Rm}{k0:Nat}{ks:List Nat}(D:Dfs rs k0 ks [])(j:Nat):j∈ks↔Reach rs k0 j:=by
 have no:∀y,(y∈ks\/y∈([]:List Nat))->y∈ks:=fun y h=>h.elim id (fun z=>by cases z)
 refine⟨D.r1 j,fun h=>?_⟩
 exact Reach.closed (S:=fun y=>y∈ks) (no _ D.st) (fun {m i lo hi} hm e=>⟨no _ (D.cl m i lo hi hm e).1,no _ (D.cl m i lo hi hm e).2⟩) h
theorem Dfs.room {n:Nat}{rs:List Rm}(B:Bk n rs){k0 x:Nat}{ks ts:List Nat}(D:Dfs rs k0 ks (ts++[x]))(h0:k0<rs.length)(hx:x∉ks):ks.length+1<=rs.length:=by
 have z:=sub_len (xs:=ks++[x]) (ys:=List.range rs.length) (zfE D.nd hx) fun y h=>?_
 ·rw[zrA,zrK] at z;exact z
 ·rw[List.mem_range]
  rcases List.mem_append.mp h with h | h
  ·exact(D.r1 y h).lt B h0
  ·rw[List.mem_singleton.mp h]
   exact(D.r2 x (zrJ _ zrM)).lt B h0
structure Q8 (rs:List Rm)(k:Nat)(ms:List Int):Prop where
 up:ms.Pairwise (·<·)
 mem:∀x,x∈ms↔∃j:Nat,x=j/\Reach rs k j
theorem Q8.of {rs:List Rm}{k:Nat}{ks:List Nat}{ms:List Int}(nd:ks.Nodup)(h:∀j,j∈ks↔Reach rs k j)(pm:ms.Perm (ks.map fun(n:Nat)=>(n:Int)))(up:ms.Pairwise (·<=·)):Q8 rs k ms:=by
 have nd':(ks.map fun(n:Nat)=>(n:Int)).Nodup:=by
  rw[List.Nodup,List.pairwise_map]
  exact nd.imp fun h e=>h (by omega)
 refine⟨U7 up (pm.nodup_iff.mpr nd'),fun x=>?_⟩
 rw[pm.mem_iff,List.mem_map]
 exact⟨fun⟨j,hj,e⟩=>⟨j,e.symm,(h j).mp hj⟩,fun⟨j,e,hj⟩=>⟨j,(h j).mpr hj,e.symm⟩⟩
end yF
namespace yF
def Means (rs:List Rm)(k:Nat)(f:Row->Bool):Prop:=k<rs.length/\∀r,yes rs k r=f r
theorem Means.grown {n:Nat}{a b:List Rm}(B:Bk n a)(g:wN a b){k:Nat}{f:Row->Bool}(h:Means a k f):Means b k f:=⟨zrB h.1 g.len,fun r=>by rw[g.yes B h.1];exact h.2 r⟩
theorem Means.eq {n:Nat}{rs:List Rm}(B:Bk n rs){i j:Nat}{f g:Row->Bool}(h:Means rs i f)(k:Means rs j g)(e:∀r,f r=g r):i=j:=Zj B (max i j) i j ⟨Nat.le_max_left _ _,Nat.le_max_right _ _⟩ h.1 k.1 fun r=>by rw[h.2,k.2,e]
end yF
namespace L2
open PySem
theorem zn2 {X:Cx}{all rest:List Stmt}{D:Ends}{Tf:TS->TS}{Pre:St->Hp->Prop}(Mid:St->Hp->Prop)(h1:∀t,PSs X rest t->PSs X all (Tf t))(h:∀u:TS,(∀ σ H,Mid σ H->u D σ H)->∀ σ H,Pre σ H->Tf u D σ H)
  (hr:∃t,PSs X rest t/\∀ σ H,Mid σ H->t D σ H):∃t,PSs X all t/\∀ σ H,Pre σ H->t D σ H :=
 let ⟨t,a,b⟩:=hr
 ⟨Tf t,h1 t a,h t b⟩
theorem zn3 {X:Cx}{all:List Stmt}{D:Ends}{σ:St}{H:Hp}(h:∃t,PSs X all t/\∀ σ' H',(σ'=σ/\H'=H)->t D σ' H'):∃t,PSs X all t/\t D σ H :=
 let ⟨t,a,b⟩:=h
 ⟨t,a,b _ _ ⟨rfl,rfl⟩⟩
end L2
namespace uU
open PySem L2 yF
section
variable (B:Hp->Addr->List Str->List Rm->xu->Prop)
structure Led (H0:Hp)(b:Addr)(os:List Str)(n:Nat)(H:Hp)(rs:List Rm)(F:xu):Prop where
 same:Same H0 H
 away:∀x,F x->H0 x=none
 bk:B H b os rs F
 len:rs.length<=n
end
section
variable {B:Hp->Addr->List Str->List Rm->xu->Prop}{C:Addr}{H0:Hp}{b:Addr}{os:List Str}{n:Nat}{H:Hp}{rs:List Rm}{F:xu}
theorem Led.new (L:W7 C B)(h:Led B H0 b os n H rs F){H':Hp}(g:Same H H'):Led B H0 b os n H' rs F:=⟨h.same.trans g,h.away,L.same h.bk g,h.len⟩
theorem Led.grow (h:Led B H0 b os n H rs F){m:Nat}{H':Hp}{rs':List Rm}{F':xu}(aw:zhu F H H')(hB:B H' b os rs' F')(nf:zn1 H F F')(hl:rs'.length<=rs.length+m):Led B H0 b os (n+m) H' rs' F' :=
 ⟨fun x o e=>aw x o (h.same _ _ e) fun z=>(by have:=h.away x z;rw[this] at e;cases e),fun x hx=>(nf x hx).elim (h.away x) (fun z=>h.same.free z),hB,zrO hl (Nat.add_le_add_right h.len _)⟩
end
end uU
namespace yF
open uU
def KJ (b:Nat):Row:=fun i=>b.testBit i
def bits (r:Row):Nat->Nat
 | 0=>0
 | n+1=>if r n then bits r n+2^n else bits r n
theorem u6 (r:Row):∀n,bits r n<2^n
 | 0=>Nat.zero_lt_one
 | n+1=>by
  have ih:=u6 r n
  unfold bits
  rw[Nat.pow_succ]
  split<;>omega
theorem Yv (r:Row):∀{n i:Nat},i<n->(bits r n).testBit i=r i
 | 0,i,h=>by omega
 | n+1,i,h=>by
  have lt:=u6 r n
  have z:(bits r n).testBit n=false:=Nat.testBit_lt_two_pow lt
  unfold bits
  by_cases e:i=n
  ·subst e
   cases hr:r i
   ·rw[if_neg zrw];exact z
   ·rw[if_pos rfl,vg,z];rfl
  ·have hi:i<n:=by omega
   split
   ·rw[Sg hi];exact Yv r hi
   ·exact Yv r hi
theorem Zm {n a b:Nat}(ha:a<2^n)(hb:b<2^n)(h:∀i,i<n->a.testBit i=b.testBit i):a=b :=
 Nat.eq_of_testBit_eq fun i=>by
  by_cases hi:i<n
  ·exact h i hi
  ·have:2^n<=2^i:=zrY (by decide) (by omega)
   rw[Nat.testBit_lt_two_pow (by omega),Nat.testBit_lt_two_pow (by omega)]
theorem zdp {r:Row}{n i:Nat}(hi:i<n)(v:Bool):bits (put r i v) n=zE (bits r n) i v:=by
 refine Zm (u6 _ _) (zP (u6 _ _) hi) fun j hj=>?_
 rw[Yv _ hj,zM,Yv _ hj]
 rfl
theorem Sy {n b:Nat}(h:b<2^n):bits (KJ b) n=b:=Zm (u6 _ _) h fun i hi=>by rw[Yv _ hi];rfl
theorem zhw {n:Nat}{rs:List Rm}(B:Bk n rs){k:Nat}(hk:k<rs.length)(r:Row):yes rs k (KJ (bits r n))=yes rs k r :=
 W6 B k k (zrI _) hk fun i _ hi=>Yv r hi
theorem Yj {n N M:Nat}{f g:Nat->Bool}(h:zN n N f)(k:zN n M g)(e:∀b,b<2^n->f b=g b):N=M :=
 Nat.eq_of_testBit_eq fun i=>by
  rw[h i,k i]
  by_cases hi:i<2^n
  ·rw[e i hi]
  ·rw[decide_eq_false hi];rfl
theorem Zn {n N:Nat}{f:Nat->Bool}(h:zN n N f){b:Nat}(hb:b<2^n):N.testBit b=f b:=by rw[h b,decide_eq_true hb];rfl
def Free (n:Nat)(f:Nat->Bool)(p:Nat):Prop:=∀b,b<2^n->∀v,f (zE b p v)=f b
theorem yD (b p:Nat):zE b p (b.testBit p)=b:=by unfold zE;rw[if_pos rfl]
theorem Free.zi7 {n p:Nat}{f:Nat->Bool}(h:∀b,b<2^n->f (zE b p (!b.testBit p))=f b):Free n f p:=fun b hb v=>by
 by_cases e:v=b.testBit p
 ·rw[e,yD]
 ·have:v=!b.testBit p:=by cases v<;>cases hh:b.testBit p<;>simp_all
  rw[this];exact h b hb
theorem vK {n:Nat}{f:Nat->Bool}(h:∀p,p<n->Free n f p):∀b,b<2^n->f b=f 0:=by
 have key:∀m b,m<=n->b<2^n->(∀i,m<=i->i<n->b.testBit i=false)->f b=f 0:=by
  intro m
  induction m with
  | zero =>
   intro b _ hb hz
   have:b=0:=Zm hb (Nat.two_pow_pos n) fun i hi=>by rw[hz i (zrP _) hi,Nat.zero_testBit]
   rw[this]
  | succ m ih =>
   intro b hm hb hz
   rw[<-h m (by omega) b hb false]
   refine ih _ (by omega) (zP hb (by omega)) fun i hi hin=>?_
   rw[zM]
   by_cases e:i=m
   ·rw[if_pos e]
   ·rw[if_neg e];exact hz i (by omega) hin
 exact fun b hb=>key n b (zrI _) hb fun i hi hin=>by omega
theorem zkZ {n:Nat}{rs:List Rm}(B:Bk n rs){k p:Nat}(hk:k<rs.length)(hp:p<n)(h:∀i,i<=p->∀r v,yes rs k (put r i v)=yes rs k r):p<Vt n rs k:=by
 by_cases k2:2<=k
 ·obtain⟨i,lo,hi,e,hin,hlo,hhi,hne,l1,l2⟩:=B.rm k k2 hk
  rw[Ww B e]
  by_cases hip:i<=p
  ·exfalso
   refine hne (Zj B (max lo hi) lo hi ⟨Nat.le_max_left _ _,Nat.le_max_right _ _⟩ (by omega) (by omega) fun r=>?_)
   have z:=VH B e hk r
   rw[<-z.1,<-z.2,h i hip,h i hip]
  ·omega
 ·have:k=0\/k=1:=by omega
  rcases this with z | z<;>subst z
  ·rw[zeF B];exact hp
  ·rw[zb8 B];exact hp
theorem zhx {n m p k0 k1:Nat}{rs:List Rm}{f:Nat->Bool}(B:Bk n rs)(hp:p<n)(m0:k0<rs.length)(m1:k1<rs.length)
  (y0:∀r,yes rs k0 r=f (zE (bits r n) p false))(y1:∀r,yes rs k1 r=f (zE (bits r n) p true))(fr:∀i,i<p->Free n f i)
  (dep:∃b,b<2^n/\f (zE b p false)≠f (zE b p true))(old:∀j,j<m->¬∀r,yes rs j r=f (bits r n))(hl:∀j,m<=j->j<rs.length->p<Vt n rs j) :
  Bk n (rs++[some (p,k0,k1)])/\∀r,yes (rs++[some (p,k0,k1)]) rs.length r=f (bits r n):=by
 have pb:∀(r:Row) v,zE (bits r n) p v<2^n:=fun r v=>zP (u6 _ _) hp
 have low:∀(k:Nat) (w:Bool),k<rs.length->(∀r,yes rs k r=f (zE (bits r n) p w))->p<Vt n rs k:=fun k w hk hy=>zkZ B hk hp fun i hi r v=>by
  rw[hy,hy,zdp (by omega)]
  by_cases e:i=p
  ·subst e
   congr 1
   refine Zm (zP (zP (u6 _ _) hp) hp) (pb r w) fun j _=>?_
   rw[zM,zM,zM]
   by_cases e:j=i
   ·rw[if_pos e,if_pos e]
   ·rw[if_neg e,if_neg e,if_neg e]
  ·rw[<-fr i (by omega) _ (pb r w) v]
   congr 1
   refine Zm (zP (zP (u6 _ _) (by omega)) hp) (zP (pb r w) (by omega)) fun j _=>?_
   rw[zM,zM,zM,zM]
   by_cases e1:j=p
   ·rw[if_pos e1,if_pos e1,if_neg (by omega)]
   ·rw[if_neg e1,if_neg e1]
 have ne:k0≠k1:=fun e=>by
  subst e
  obtain⟨b,hb,hne⟩:=dep
  refine hne ?_
  have a:=y0 (KJ b)
  have c:=y1 (KJ b)
  rw[Sy hb] at a c
  exact a.symm.trans c
 have fin:∀(R:List Rm) (k:Nat),Bk n R->R[k]?=some (some (p,k0,k1))->(∀j,j<rs.length->∀r,yes R j r=yes rs j r)->∀r,yes R k r=f (bits r n):=fun R k BR e same r=>by
  rw[U5 BR e,same _ m1,same _ m0,y0,y1]
  have hb:=Yv r hp
  cases hr:r p
  ·rw[if_neg zrw]
   rw[hr] at hb
   conv=>rhs;rw[<-yD (bits r n) p,hb]
  ·rw[if_pos rfl]
   rw[hr] at hb
   conv=>rhs;rw[<-yD (bits r n) p,hb]
 have new:some (p,k0,k1)∉rs:=fun h=>by
  obtain⟨j,hj,e⟩:=zr9 h
  have e':rs[j]?=some (some (p,k0,k1)):=by rw[zrt hj,e]
  by_cases hm:j<m
  ·exact old j hm (fin rs j B e' fun _ _ _=>rfl)
  ·have:=hl j (by omega) hj
   rw[Ww B e'] at this
   omega
 have B':=B.snoc hp m0 m1 ne (low k0 false m0 y0) (low k1 true m1 y1) new
 refine⟨B',fin _ _ B' (by simp) fun j hj r=>?_⟩
 exact zdn B hj r
structure zdq (n:Nat)(rs:List Rm)(ts:List Nat):Prop where
 len:ts.length=rs.length
 tab:∀(j t:Nat),ts[j]?=some t->zN n t (fun b=>yes rs j (KJ b))
theorem zdq.snoc {n:Nat}{rs:List Rm}(B:Bk n rs){ts:List Nat}{x:Rm}{t:Nat}(h:zdq n rs ts)(k:zN n t (fun b=>yes (rs++[x]) rs.length (KJ b))):zdq n (rs++[x]) (ts++[t]):=by
 refine⟨by rw[zrA,zrA,h.len];rfl,fun j u e=>?_⟩
 by_cases hj:j<ts.length
 ·rw[zrZ hj] at e
  refine yE (h.tab j u e) fun b _=>?_
  rw[zdn B (by rw[<-h.len];exact hj)]
 ·have lt:=(zrv.mp e).1
  rw[zrA,zr0] at lt
  have ej:j=ts.length:=by omega
  subst ej
  simp at e
  subst e
  rw[h.len]
  exact k
theorem zdq.find {n:Nat}{rs:List Rm}(B:Bk n rs){ts:List Nat}(h:zdq n rs ts){j t:Nat}{f:Nat->Bool}(e:ts[j]?=some t)(tb:zN n t f)(r:Row):yes rs j r=f (bits r n):=by
 have hj:j<rs.length:=by rw[<-h.len];exact(zrv.mp e).1
 rw[<-zhw B hj,<-Zn tb (u6 r n),Zn (h.tab j t e) (u6 r n)]
theorem zdq.same {n:Nat}{rs:List Rm}{ts:List Nat}(h:zdq n rs ts){j t:Nat}{f:Nat->Bool}(hj:j<rs.length)(tb:zN n t f)(hy:∀r,yes rs j r=f (bits r n)):ts[j]?=some t:=by
 have lt:j<ts.length:=by rw[h.len];exact hj
 rw[zrt lt]
 congr 1
 refine Yj (h.tab j _ (zrt lt)) tb fun b hb=>?_
 show yes rs j (KJ b)=f b
 rw[hy,Sy hb]
end yF
namespace uU
open PySem L2 yF
structure Nums (ts:List Nat)(kvs:List (Key×V)):Prop where
 get:∀(j t:Nat),ts[j]?=some t->tL kvs (Sum.inl (t:Int))=some (.int (j:Nat))
 non:∀t:Nat,t∉ts->tL kvs (Sum.inl (t:Int))=none
 len:kvs.length<=ts.length
theorem Nums.snoc {ts:List Nat}{kvs:List (Key×V)}(h:Nums ts kvs){t:Nat}(ht:t∉ts):Nums (ts++[t]) (putK kvs (Sum.inl (t:Int)) (.int (ts.length:Nat))):=by
 refine⟨fun j u e=>?_,fun u hu=>?_,?_⟩
 ·rw[JM]
  by_cases hj:j<ts.length
  ·rw[zrZ hj] at e
   have hm:=zrx e
   rw[if_neg fun z=>?_]
   ·exact h.get j u e
   ·have:(u:Int)=(t:Int):=Sum.inl.inj z
    have:u=t:=by omega
    exact ht (this ▸ hm)
  ·have lt:=(zrv.mp e).1
   rw[zrA,zr0] at lt
   have ej:j=ts.length:=by omega
   subst ej
   simp at e
   subst e
   rw[if_pos rfl]
 ·rw[JM,if_neg fun z=>?_]
  ·exact h.non u fun z=>hu (List.mem_append_left _ z)
  ·have:(u:Int)=(t:Int):=Sum.inl.inj z
   have:u=t:=by omega
   exact hu (this ▸ zrJ _ zrM)
 ·have:=X3 kvs (Sum.inl (t:Int)) (.int (ts.length:Nat))
  have:=h.len
  rw[zrA,zr0]
  omega
def zmo (n j:Nat):Rm->List V
 | none=>[.int (n:Nat),.int (j:Nat),.int (j:Nat)]
 | some (i,lo,hi)=>[.int (i:Nat),.int (lo:Nat),.int (hi:Nat)]
def U8 (j:Nat)(x:Rm)(v:Bool):Nat:=match x with
 | none=>j
 | some (_,lo,hi)=>if v then hi else lo
def Mu (ml rl tl nd:Addr):List (Str×V):=[("marks", .ref ml),("rooms", .ref rl),("tables", .ref tl),("numbers", .ref nd)]
structure Parts (C:Addr)(H:Hp)(b:Addr)(os:List Str)(rs:List Rm)(F:xu)(dx ml rl tl nd:Addr)(rv:List V)(ts:List Nat)(kvs:List (Key×V)):Prop where
 hb:H b=some (.ins C dx (Mu ml rl tl nd))
 hm:H ml=some (.lst (os.map V.str))
 hr:H rl=some (.lst rv)
 ht:H tl=some (.lst (ts.map fun t=>V.int (t:Nat)))
 hd:H nd=some (.dK kvs)
 mr:ml≠rl
 mt:ml≠tl
 rt:rl≠tl
 ord:QS os
 bk:Bk os.length rs
 len:rv.length=rs.length
 rm:∀(j:Nat) x,rs[j]?=some x->∃p,rv[j]?=some (.ref p)/\H p=some (.tup (zmo os.length j x))
 tabs:zdq os.length rs ts
 nums:Nums ts kvs
 ft:∀x,F x↔(x=b\/x=ml\/x=rl\/x=tl\/x=nd)
def zW (C:Addr)(H:Hp)(b:Addr)(os:List Str)(rs:List Rm)(F:xu):Prop:=∃dx ml rl tl nd rv ts kvs,Parts C H b os rs F dx ml rl tl nd rv ts kvs
theorem Parts.frame {C:Addr}{H H':Hp}{b:Addr}{os:List Str}{rs:List Rm}{F:xu}{dx ml rl tl nd:Addr}{rv:List V}{ts:List Nat}{kvs:List (Key×V)}(h:Parts C H b os rs F dx ml rl tl nd rv ts kvs)
  (s:∀x o,H x=some o->F x->H' x=some o)(t:yH H H'):Parts C H' b os rs F dx ml rl tl nd rv ts kvs :=
 {h with
  hb:=s _ _ h.hb ((h.ft _).mpr (.inl rfl))
  hm:=s _ _ h.hm ((h.ft _).mpr (.inr (.inl rfl)))
  hr:=s _ _ h.hr ((h.ft _).mpr (.inr (.inr (.inl rfl))))
  ht:=s _ _ h.ht ((h.ft _).mpr (.inr (.inr (.inr (.inl rfl)))))
  hd:=s _ _ h.hd ((h.ft _).mpr (.inr (.inr (.inr (.inr rfl)))))
  rm:=fun j x e=>let ⟨p,a,c⟩:=h.rm j x e;⟨p,a,t _ _ c⟩ }
theorem yW (C:Addr):W7 C (zW C) where
 ins:=fun⟨dx,ml,rl,tl,nd,rv,ts,kvs,h⟩=>⟨dx,_,h.hb,fun m hm=>by
  simp only[zbn,List.mem_cons,zrT,or_false] at hm
  rcases hm with z | z | z | z | z | z<;>subst z<;>rfl⟩
 frame:=fun⟨dx,ml,rl,tl,nd,rv,ts,kvs,h⟩ s t=>⟨dx,ml,rl,tl,nd,rv,ts,kvs,h.frame s t⟩
 there:=fun⟨dx,ml,rl,tl,nd,rv,ts,kvs,h⟩ hx=>by
  rcases (h.ft _).mp hx with z | z | z | z | z<;>subst z
  ·rw[h.hb];exact fun z=>by cases z
  ·rw[h.hm];exact fun z=>by cases z
  ·rw[h.hr];exact fun z=>by cases z
  ·rw[h.ht];exact fun z=>by cases z
  ·rw[h.hd];exact fun z=>by cases z
 bk:=fun⟨_,_,_,_,_,_,_,_,h⟩=>h.bk
 ord:=fun⟨_,_,_,_,_,_,_,_,h⟩=>h.ord
theorem Parts.more {C:Addr}{H H':Hp}{b:Addr}{os:List Str}{rs:List Rm}{F:xu}{dx ml rl tl nd:Addr}{rv:List V}{ts:List Nat}{kvs:List (Key×V)}(h:Parts C H b os rs F dx ml rl tl nd rv ts kvs)
  {i lo hi t:Nat}{q:Addr}(t':yH H H')(hb:H' b=H b)(hm:H' ml=H ml)(hr:H' rl=some (.lst (rv++[.ref q])))(ht:H' tl=some (.lst (ts.map (fun t=>V.int (t:Nat))++[.int (t:Nat)])))
  (hd:H' nd=some (.dK (putK kvs (Sum.inl (t:Int)) (.int (rs.length:Nat)))))(hq:H' q=some (.tup [.int (i:Nat),.int (lo:Nat),.int (hi:Nat)]))(B':Bk os.length (rs++[some (i,lo,hi)]))(hn:t∉ts)(tb:zN os.length t (fun b=>yes (rs++[some (i,lo,hi)]) rs.length (KJ b))) :
  Parts C H' b os (rs++[some (i,lo,hi)]) F dx ml rl tl nd (rv++[.ref q]) (ts++[t]) (putK kvs (Sum.inl (t:Int)) (.int (rs.length:Nat))) :=
 {hb:=by rw[hb];exact h.hb
  hm:=by rw[hm];exact h.hm
  hr:=hr
  ht:=by rw[ht,zrG];rfl
  hd:=hd
  mr:=h.mr
  mt:=h.mt
  rt:=h.rt
  ord:=h.ord
  bk:=B'
  len:=by rw[zrA,zrA,h.len];rfl
  rm:=fun j x e=>by
   by_cases hj:j<rs.length
   ·rw[zrZ hj] at e
    obtain⟨p,a,c⟩:=h.rm j x e
    exact⟨p,by rw[zrZ (by rw[h.len];exact hj)];exact a,t' _ _ c⟩
   ·have lt:=(zrv.mp e).1
    rw[zrA,zr0] at lt
    have ej:j=rs.length:=by omega
    subst ej
    simp at e
    subst e
    exact⟨q,by rw[<-h.len];simp,hq⟩
  tabs:=h.tabs.snoc h.bk tb
  nums:=by
   have z:=h.nums.snoc hn
   rw[h.tabs.len] at z
   exact z
  ft:=h.ft }
inductive Zo (vs:List V)(H:Hp)(Q:VK)(E9:XK):Prop
 | mk (N p n:Nat) (v:Bool) (f:Nat->Bool) (_:vs=[.int N,.int p,.int (v.toNat:Nat),.int n]) (_:p<n) (_:n<=8) (_:zN n N f) (_:∀R:Nat,zN n R (fun b=>f (zE b p v))->Q (.int R) H):Zo vs H Q E9
inductive Jb (vs:List V)(H:Hp)(Q:VK)(E9:XK):Prop
 | mk (N n:Nat) (f:Nat->Bool) (_:vs=[.int N,.int n]) (_:n<=8) (_:zN n N f) (_:∀p:Nat,p<=n->(∀i,i<p->Free n f i)->(p<n->∃b,b<2^n/\f (zE b p false)≠f (zE b p true))->Q (.int p) H):Jb vs H Q E9
inductive vA (C:Addr)(vs:List V)(H:Hp)(Q:VK)(E9:XK):Prop
 | mk (b:Addr) (os:List Str) (rs:List Rm) (F:xu) (k:Nat) (_:vs=[.ref b,.int k]) (_:zW C H b os rs F) (_:k<rs.length) (_:Q .non H):vA C vs H Q E9
inductive SJ (C:Addr)(vs:List V)(H:Hp)(Q:VK)(E9:XK):Prop
 | mk (b:Addr) (os:List Str) (rs:List Rm) (F:xu) (k:Nat) (_:vs=[.ref b,.int k]) (_:zW C H b os rs F) (_:k<rs.length) (_:Q (.int (Vt os.length rs k:Nat)) H):SJ C vs H Q E9
inductive Q9 (C:Addr)(vs:List V)(H:Hp)(Q:VK)(E9:XK):Prop
 | mk (b:Addr) (os:List Str) (rs:List Rm) (F:xu) (k:Nat) (x:Rm) (v:Bool) (_:vs=[.ref b,.int k,.int (v.toNat:Nat)]) (_:zW C H b os rs F) (_:rs[k]?=some x) (_:Q (.int (U8 k x v:Nat)) H):Q9 C vs H Q E9
inductive ZW (C:Addr)(vs:List V)(H:Hp)(Q:VK)(E9:XK):Prop
 | mk (b:Addr) (os:List Str) (rs:List Rm) (F:xu) (k:Nat) (_:vs=[.ref b,.int k]) (_:zW C H b os rs F) (_:k<rs.length) (_:∀t:Nat,zN os.length t (fun b=>yes rs k (KJ b))->Q (.int t) H):ZW C vs H Q E9
inductive Pa (vs:List V)(H:Hp)(Q:VK)(E9:XK):Prop
 | mk (N p n:Nat) (f:Nat->Bool) (_:vs=[.int N,.int p,.int n]) (_:p<n) (_:n<=8) (_:zN n N f) (_:∀b:Bool,(b=false->Free n f p)->(b=true->∃c,c<2^n/\f (zE c p false)≠f (zE c p true))->Q (.bl b) H):Pa vs H Q E9
inductive ZX (vs:List V)(H:Hp)(Q:VK)(E9:XK):Prop
 | mk (N M n:Nat) (f g:Nat->Bool) (_:vs=[.int N,.int M]) (_:zN n N f) (_:zN n M g) (_:∀R:Nat,zN n R (fun b=>f b&&!g b)->Q (.int R) H):ZX vs H Q E9
inductive Pb (vs:List V)(H:Hp)(Q:VK)(E9:XK):Prop
 | mk (W L M n:Nat) (f g h:Nat->Bool) (_:vs=[.int W,.int L,.int M]) (_:zN n W f) (_:zN n L g) (_:zN n M h) (_:∀R:Nat,zN n R (fun b=>if f b then h b else g b)->Q (.int R) H):Pb vs H Q E9
end uU
namespace L2
open PySem PySem.Spec PyProof.Rows
def Its (x:Str):It:={ go:=fun i _=>i<x.cps.size,Qs:=fun i H v H'=>H'=H/\∃c,x.cps[i]?=some c/\v=.str ⟨#[c]⟩,stop:=fun i _=>i=x.cps.size }
theorem zhy {P:Program}{w:World}{K:Frag}{tg:Expr}(it:Addr)(x:Str)(t:Tok):Turn P w K tg (Its x) [it] it (fun i h=>h.IsStrIter it "str_ascii_iterator" x t i) where
 mem:=by simp
 obj:=fun i h st b hb=>by
  have e:b=it:=by simpa using hb
  subst e
  obtain⟨o,e,c,d⟩:=st
  exact⟨o,e,fun v z=>by rw[d] at z;cases z⟩
 keep:=fun i h h' st k=>by
  obtain⟨o,e,c,d⟩:=st
  exact⟨o,k it (by simp) o e,c,d⟩
 item:=by
  intro X hP hw hK hc i pins s σ H E I hf st hg
  subst hP hw hK
  obtain⟨f0,f1,f2,f3,f4,f5⟩:=hf it (by simp)
  have W:=Walks.strAscii (prog:=X.prog) (w:=X.w) (I.ok.hd hc) it x t
  refine W.item i s _ _ hg st fun v h' tk hv st' kk=>?_
  obtain⟨c,u,hc',rfl⟩:=hv
  have I1:Inv X pins σ H { s with heap:=h',toks:=tk }:=I.turned (fun b o hb e=>kk b o (by simpa using hb) e) f0 f1 f3 f4 f5
  obtain⟨o,e,cc,d⟩:=id st'
  exact⟨_,rfl,zcZ (s:={ s with heap:=h',toks:=tk }) e cc d (by decide) ⟨.str ⟨#[c]⟩,H,I1,⟨u,rfl⟩,⟨rfl,c,hc',rfl⟩,st',fun b hb=>(hf b hb).1⟩⟩
 done:=by
  intro X hP hw hK hc i pins s σ H E I hf st hg
  subst hP hw hK
  obtain⟨f0,f1,f2,f3,f4,f5⟩:=hf it (by simp)
  have W:=Walks.strAscii (prog:=X.prog) (w:=X.w) (I.ok.hd hc) it x t
  have e:i=x.cps.size:=hg
  subst e
  exact W.done s _ _ st fun h' tk kk=>⟨rfl,I.turned (fun b o hb e=>kk b o (by simpa using hb) e) f0 f1 f3 f4 f5⟩
 self:=fun _ _ _ _ _ st h=>wpAny_pyIter_striter_ascii st h
section
variable {X:Cx}{tg:Expr}
def zn4 (tl:TE):TI:=fun σ H R=>tl σ H fun x H1=>∃z:Str,x=.str z/\(z.cps.all fun c=>decide (c<128))=true/\R (Its z) H1
theorem zk0 {l:Expr}{tl:TE}(hl:PE X l tl):PI X tg l (zn4 tl):=by
 intro pins s σ H R I h
 refine wQ (hl pins s σ H _ I h) fun v s1 ⟨x,H1,I1,r1,q1⟩=>?_
 obtain⟨z,e,ha,q⟩:=q1
 subst e
 obtain⟨t,rfl⟩:=r1
 refine wpAny_pyIter_ascii ha ?_
 refine⟨s1.heap.objs.size,[s1.heap.objs.size],_,_,H1,rfl,I1.kept (t':=s1.toks) fun b o e=>zry _ e,zhy _ z t,⟨_,zrN _ rfl,rfl,rfl⟩,fun b hb=>?_,q⟩
 have e:b=s1.heap.objs.size:=by simpa using hb
 subst e
 exact I1.zeh (zrI _) (I1.hok.fresh (zrI _))
end
end L2
namespace uU
open PySem L2 yF
def chc (b:Bool):Nat:=if b then 49 else 48
end uU
namespace yF
open uU
def allR:Nat->List (List Bool)
 | 0=>[[]]
 | n+1=>(allR n).flatMap fun r=>[r++[false],r++[true]]
theorem Pg:∀(n:Nat) (r:List Bool),r∈allR n->r.length=n
 | 0,r,h=>by
  have:r=[]:=by simpa [allR] using h
  rw[this];rfl
 | n+1,r,h=>by
  obtain⟨x,hx,hr⟩:=List.mem_flatMap.mp h
  have ih:=Pg n x hx
  simp at hr
  rcases hr with z | z<;>rw[z,zrA,ih]<;>rfl
end yF
namespace L2
open PySem PySem.Spec PyProof.Rows
section
variable {X:Cx}{sc vX:Scope}{xs:List Str}{js:List Nat}{tg:Expr}{g:TG}{elt iter:Expr}{px pos:Pos}{ifs:List Expr}{wi:TI}{tt:TT}{te:TE}
theorem zk1 (Xi:X.env.scope=vX)(L:zc6 vX sc xs (js.map fun j=>X.N.getD j ""))(hc:X.calm=true)(hi:PI X tg iter wi)(hg:∀(cl:List (Str×Addr)) (C:Addr) (s₂:Shared) (H₂:Hp) (fp:List Addr),PG (X.blk sc cl C (Um X xs js) s₂ H₂ fp) tg g)(hjs:∀j∈js,j<X.N.length)
  (ht:∀(cl:List (Str×Addr)) (C:Addr) (s₂:Shared) (H₂:Hp) (fp:List Addr) (pins:List (Addr×Obj)) (s':Shared) (σ':St) (H':Hp) (Q:Bool->Hp->Prop),Inv (X.blk sc cl C (Um X xs js) s₂ H₂ fp) pins σ' H' s'->tt σ' H' Q ->
   wpAny (model X.prog X.w) X.A (Yh ifs (compEnvC sc cl C X.env)) (TP (X.blk sc cl C (Um X xs js) s₂ H₂ fp) pins σ' Q) (fun _ _=>False) s')
  (he:∀(cl:List (Str×Addr)) (C:Addr) (s₂:Shared) (H₂:Hp) (fp:List Addr),PE (X.blk sc cl C (Um X xs js) s₂ H₂ fp) elt te)
  (hs:∀x,foldedSetIterable iter X.env x=pure x:=by intro _;rfl) :
  PE X (.ListComp elt [⟨tg,iter,ifs,0⟩] sc pos) (zkK wi xs js g tt te):=by
 intro pins s σ H Q I h
 rw[eval_ListComp]
 refine Jx (use:=none) (Fin:=fun ys H=>∀p,H p=none->Q (.ref p) (upd H p (.lst ys))) Xi L (rd:=Calm) (fun _ _ _ _ _ _ _=>hc) hi hg hjs ht he hs I h fun D C s5 H5 ys its k m5 J oD oC hDC p1 vs z hn fin=>?_
 refine⟨m5,hn,fun h' hsb=>?_⟩
 have J2:Inv X pins σ H5 { s5 with heap:=h',toks:=s5.toks }:=J.turned (it:=C) (fun b o hb e=>hsb.extBut b o hb e) oC.free oC.loc (.inr oC.new) oC.cel oC.pin
 have p1':h'.get? D=some (vP its k):=hsb.extBut _ _ hDC p1
 have J3:Inv X pins σ (upd H5 D (.lst ys)) { s5 with heap:=h',toks:=s5.toks }:=J2.track oD.free oD.loc oD.new oD.cel oD.pin ⟨z,its,k,vs,p1'⟩
 exact⟨.ref D,_,J3,rfl,fin D oD.free⟩
end
theorem Inv.zi8 {X:Cx}{pins:List (Addr×Obj)}{σ:St}{H:Hp}{s:Shared}{h':Heap}{t':Nat}{fp:List Addr}(I:Inv X pins σ H s)(k:∀b o,b∉fp->s.heap.get? b=some o->h'.get? b=some o)(hf:∀b∈fp,zay X pins H b) :
  Inv X pins σ H { s with heap:=h',toks:=t' }:=by
 have nit:∀b u,H b=some u->b∉fp:=fun b u e z=>by rw[(hf b z).1] at e;cases e
 refine I.step (g':=s.gens) (d':=s.drawn) (ch:=fp) (fun b hb=>⟨(hf b hb).2.2.2.1,(hf b hb).2.1,(hf b hb).2.2.2.2.1,(hf b hb).2.2.2.2.2⟩) (fun b o _ _ hc e _=>k b o hc e) (fun b o _ _ hc e _=>⟨o.slots,k b o hc e⟩) (fun _ _ _ _ n=>n)
  (fun b o hc e=>⟨o,k b o hc e⟩) (fun _ _ e=>e) (fun _ _ _ e=>e) (fun b ps e=>⟨#[],by rw[e];simp⟩) (fun m hm=>?_) (fun b u e=>?_) I.bare
 ·obtain⟨o,es,ep,ho,r⟩:=hm
  exact⟨o,es,ep,k _ o (fun z=>(hf _ z).2.1 rfl) ho,r⟩
 ·refine(I.hok b u e).stay (fun c v hc q=>k c v ?_ q) (fun _ q=>q) fun _ _ q=>q
  rcases hc with z | z
  ·rw[z];exact nit b u e
  ·exact nit c _ z
def Itz (K:Frag)(a b:Addr):It :=
 {go:=fun i H=>∃xs ys x y,zX K H a xs/\zX K H b ys/\xs[i]?=some x/\ys[i]?=some y
  Qs:=fun i H v H'=>∃q x y,(∀xs,zX K H a xs->xs[i]?=some x)/\(∀ys,zX K H b ys->ys[i]?=some y)/\v=.ref q/\H q=none/\H'=upd H q (.tup [x,y])
  stop:=fun i H=>∃xs ys,zX K H a xs/\zX K H b ys/\(xs.length<=i\/ys.length<=i) }
theorem zhz {P:Program}{w:World}{K:Frag}{els:List Expr}{x1}{pt:Pos}(a b z ti to i1 i2:Addr)(D:ZipApart z ti to i1 i2 a b):Turn P w K (.Tuple els x1 pt) (Itz K a b) [z,ti,to,i1,i2] z
  (fun i h=>IsZip h z ti to .none/\IsPair h ti (.ref i1) (.ref i2)/\(∃u v,IsPair h to u v)/\h.IsListIter i1 a i/\h.IsListIter i2 b i) where
 mem:=by simp
 obj:=fun i h st c hc=>by
  obtain⟨q1,q2,⟨u,v,q3⟩,⟨o4,q4,c4,d4⟩,⟨o5,q5,c5,d5⟩⟩:=st
  simp only[List.mem_cons,zrT,or_false] at hc
  rcases hc with e | e | e | e | e<;>subst e
  ·exact⟨_,q1,fun v hv=>by cases hv⟩
  ·exact⟨_,q2,fun v hv=>by cases hv⟩
  ·exact⟨_,q3,fun v hv=>by cases hv⟩
  ·exact⟨_,q4,fun v hv=>by rw[d4] at hv;cases hv⟩
  ·exact⟨_,q5,fun v hv=>by rw[d5] at hv;cases hv⟩
 keep:=fun i h h' st k=>by
  obtain⟨q1,q2,⟨u,v,q3⟩,q4,q5⟩:=st
  exact⟨k z (by simp) _ q1,k ti (by simp) _ q2,⟨u,v,k to (by simp) _ q3⟩,q4.at fun o e=>k i1 (by simp) o e,q5.at fun o e=>k i2 (by simp) o e⟩
 item:=by
  intro X hP hw hK hc i pins s σ H E I hf st hg
  subst hP hw hK
  obtain⟨xs,ys,x,y,hq1,hq2,hx,hy⟩:=hg
  obtain⟨q1,q2,⟨u0,v0,q3⟩,q4,q5⟩:=st
  obtain⟨zeH,rv1,pl1,hz1⟩:=I.list hq1
  obtain⟨its2,rv2,pl2,hz2⟩:=I.list hq2
  obtain⟨u,hu,ru⟩:=rv1.get hx
  obtain⟨v,hv,rv⟩:=rv2.get hy
  refine wpAny_pyNext_zip_item D q1 q2 q3 q4 q5 pl1.isList pl2.isList (x:=u) (y:=v) (by simpa using hu) (by simpa using hv) fun h1 out pto it1 it2 tup sz k1=>?_
  refine⟨.ref s.heap.objs.size,rfl,wpAny_letOwnedTupleGo_zip out fun h2 he2 sb=>?_⟩
  have ltz:=zrz q1
  have ltf:∀c∈[z,ti,to,i1,i2],c<s.heap.objs.size:=fun c hc=>by
   simp only[List.mem_cons,zrT,or_false] at hc
   rcases hc with e | e | e | e | e<;>subst e
   ·exact ltz
   ·exact zrz q2
   ·exact zrz q3
   ·obtain⟨o,e,_⟩:=q4;exact zrz e
   ·obtain⟨o,e,_⟩:=q5;exact zrz e
  have k2:∀c o,c∉[z,ti,to,i1,i2]->s.heap.get? c=some o->h2.get? c=some o:=fun c o hc q=>by
   simp only[List.mem_cons,zrT,or_false,not_or] at hc
   obtain⟨c1,c2,c3,c4,c5⟩:=hc
   exact(sb.2 c c1).trans (k1 c o c1 c3 c4 c5 q)
  have it1':h2.IsListIter i1 a (i+1):=it1.at fun o e=>(sb.2 i1 D.i1z).trans e
  have it2':h2.IsListIter i2 b (i+1):=it2.at fun o e=>(sb.2 i2 D.i2z).trans e
  have hti:IsPair h2 ti (.ref i1) (.ref i2):=(sb.2 ti D.TIz).trans (k1 ti _ D.TIz D.TITO D.TIi1 D.TIi2 q2)
  have hto:IsPair h2 to u v:=(sb.2 to D.TOz).trans pto
  have J1:Inv X pins σ H { s with heap:=h2,toks:=s.toks }:=I.zfs (fp:=[z,ti,to,i1,i2]) k2 (fun c hc=>by
   simp only[List.mem_cons,zrT,or_false] at hc
   rcases hc with e | e | e | e | e<;>subst e
   ·exact⟨_,he2⟩
   ·exact⟨_,hti⟩
   ·exact⟨_,hto⟩
   ·obtain⟨o,e,_⟩:=it1';exact⟨o,e⟩
   ·obtain⟨o,e,_⟩:=it2';exact⟨o,e⟩) hf
  have zk2:h2.get? s.heap.objs.size=some { cls:=.type "tuple", data:=.seq #[u,v] }:=(sb.2 _ (Nat.ne_of_gt ltz)).trans tup
  have ltc:∀y c,X.env.cells.lookup y=some c->c≠s.heap.objs.size:=fun y c q=>by
   obtain⟨v,o,z,_⟩:=I.cell y c q
   exact zrH (zrz z)
  have ltp:∀p∈X.pn++pins,p.1≠s.heap.objs.size:=fun p hp=>zrH (zrz (I.pin p hp).1)
  have J2:=J1.track (a:=s.heap.objs.size) (o:=.tup [x,y]) I.fresh (Ne.symm (zrH I.lt)) I.sz ltc ltp ⟨by show 2<=sizeLine;decide,[u,v],.cons ru (.cons rv .nil),⟨_,zk2,rfl,_,rfl⟩⟩
  refine⟨.ref s.heap.objs.size,_,J2,rfl,⟨_,x,y,fun zs hzs=>by rw[I.WY hzs hq1];exact hx,fun zs hzs=>by rw[I.WY hzs hq2];exact hy,rfl,I.fresh,rfl⟩,⟨he2,hti,⟨u,v,hto⟩,it1',it2'⟩,fun c hc=>?_⟩
  rw[zB (zrH (ltf c hc))]
  exact(hf c hc).1
 done:=by
  intro X hP hw hK hc i pins s σ H E I hf st hg
  subst hP hw hK
  obtain⟨xs,ys,hq1,hq2,hx⟩:=hg
  obtain⟨q1,q2,⟨u0,v0,q3⟩,q4,q5⟩:=st
  obtain⟨zeH,rv1,pl1,hz1⟩:=I.list hq1
  obtain⟨its2,rv2,pl2,hz2⟩:=I.list hq2
  have l1:=rv1.length
  have l2:=rv2.length
  refine wpAny_pyNext_zip_end (I.ok.hd hc) D q1 q2 q3 q4 q5 pl1.isList pl2.isList (by
   rcases hx with e | e
   ·left;simp;omega
   ·right;simp;omega) fun h' k=>⟨rfl,?_⟩
  refine I.zi8 (t':=s.toks) (fp:=[z,to,i1,i2]) (fun c o hc e=>?_) fun c hc=>hf c (by simp only[List.mem_cons,zrT,or_false] at hc ⊢;rcases hc with e | e | e | e<;>simp[e])
  simp only[List.mem_cons,zrT,or_false,not_or] at hc
  exact k c o hc.1 hc.2.1 hc.2.2.1 hc.2.2.2 e
 self:=fun _ _ _ _ _ st h=>wpAny_pyIter_zip st.1 h
section
variable {X:Cx}
def zn7 (K:Frag)(ta:TA):TI:=fun σ H R=>ta σ H fun vs H1=>∃a b xs ys,vs=[.ref a,.ref b]/\zX K H1 a xs/\zX K H1 b ys/\R (Itz K a b) H1
theorem zk3 {l m:Expr}{ta:TA}{p pos:Pos}{els:List Expr}{x1}{pt:Pos}(hg:Gl X "zip")(hm:X.mg "zip"=none)(ha:PA X [l,m] ta)(hs:starEach [l,m] X.env=[(false,eval l X.env),(false,eval m X.env)]:=by rfl)(hs2:starEach [m] X.env=[(false,eval m X.env)]:=by rfl) :
  PI X (.Tuple els x1 pt) (.Call (.Name "zip" p) [l,m] [] pos) (zn7 X.K ta):=by
 intro pins s σ H R I h
 refine Call_ (Ws I hg hm boot_zip (PyProof.Rows.callWith_type1 (wQ (ha pos pins s σ H _ I h) fun us s1 ⟨vs,H1,I1,r1,q1⟩=>?_) (by rw[hs,hs2]) (by rw[hs2];rfl)))
 obtain⟨a,b,xs,ys,e,hq1,hq2,q⟩:=q1
 subst e
 obtain⟨u,v,rfl,ru,rv⟩:=vals2 r1
 cases ru
 cases rv
 obtain⟨zeH,rv1,pl1,hz1⟩:=I1.list hq1
 obtain⟨its2,rv2,pl2,hz2⟩:=I1.list hq2
 obtain⟨o1,e1,_⟩:=id pl1.isList
 obtain⟨o2,e2,_⟩:=id pl2.isList
 refine call_zip_2 pl1.isList pl2.isList fun h' hz hti hto it1 it2 hsz hk=>?_
 have J:Inv X pins σ H1 { s1 with heap:=h',toks:=s1.toks }:=I1.kept hk
 refine wpAny_pyIter_zip hz ?_
 refine⟨s1.heap.objs.size+4,[s1.heap.objs.size+4,s1.heap.objs.size+2,s1.heap.objs.size+3,s1.heap.objs.size,s1.heap.objs.size+1],_,_,H1,rfl,J,zhz a b _ _ _ _ _ (zipApart_new (zrz e1) (zrz e2)),⟨hz,hti,⟨_,_,hto⟩,it1,it2⟩,fun c hc=>?_,q⟩
 have gc:s1.heap.objs.size<=c:=by
  simp only[List.mem_cons,zrT,or_false] at hc
  rcases hc with z | z | z | z | z<;>rw[z]<;>omega
 exact I1.zeh gc (I1.hok.fresh gc)
def zmq (K:Frag):R2:=fun x y H Q=>∃p q xs ys,x=.ref p/\y=.ref q/\zX K H p xs/\zX K H q ys/\xs.length+ys.length<=sizeLine/\∀l,H l=none->Q (.ref l) (upd H l (.lst (xs++ys)))
theorem zfF:Uq X (binaryOp .Add) (zmq X.K):=by
 intro pins s σ H x y v u Q I rx ry h
 obtain⟨p,q,xs,ys,rfl,rfl,hp,hq,hz,h⟩:=h
 cases rx
 cases ry
 obtain⟨zeH,rv1,pl1,hz1⟩:=I.list hp
 obtain⟨its2,rv2,pl2,hz2⟩:=I.list hq
 obtain⟨⟨cls,dd,data,sl⟩,ho,hc,n,hd⟩:=id pl1.isList
 obtain⟨⟨cls2,dd2,data2,sl2⟩,ho2,hc2,n2,hd2⟩:=id pl2.isList
 simp only at hc hd hc2 hd2
 subst hc hd hc2 hd2
 have l1:=rv1.length
 have l2:=rv2.length
 have e:zeH.toArray++its2.toArray=(zeH++its2).toArray:=by simp
 refine concat_meets ⟨_,ho,rfl⟩ ⟨_,ho2,rfl⟩ noFill_list_add seq_list_add PySem.F.slot_list_add PySem.F.entry_list_add (PySem.F.args_list_add_2 _ _) (list_addW p q zeH.toArray its2.toArray n n2 dd dd2 sl sl2 (by simp;omega)) ⟨ho,ho2,?_⟩
 rw[e]
 refine⟨.ref s.heap.objs.size,_,I.laid (t':=s.toks) (o:=.lst (xs++ys)) (fun b o e=>zry _ e) (zrI _) ?_,rfl,h _ (I.hok.fresh (zrI _))⟩
 exact⟨by rw[zrA];exact hz,zeH++its2,0,rv1.append rv2,zrN _ rfl⟩
end
end L2
namespace L2
open PySem
theorem zfG {X:Cx}{x y:Str}{px py pt:Pos}{x1:Nat}(hc:X.calm=true)(hN:X.N.Nodup)(h0:X.N[0]?=some x)(h1:X.N[1]?=some y)(hx:X.env.scope.names.lookup x=some .local)(hy:X.env.scope.names.lookup y=some .local):PG X (.Tuple [.Name x px,.Name y py] x1 pt) (zgP X.K 2 (Qv (XQ 0) (Qv (XQ 1) zgO))) :=
 zgQ hc (Qw (yU hN h0 (.inl hx) (.inr hx)) (Qw (yU hN h1 (.inl hy) (.inr hy)) zfe))
end L2
namespace L2
open PySem PySem.Spec PyProof.Rows
structure zfH (vX sc:Scope)(x y:Str)(fv:List Str):Prop where
 g:zc6 vX sc [x,y] fv
 hx:sc.names.lookup x=some .local
 hy:sc.names.lookup y=some .local
 nd:([x,y]++fv).Nodup
end L2
namespace uU
open PySem L2 yF
def vZ (ns:List Int)(i:Nat):Int:=(ns[i]?).getD 0
inductive Jc (K:Frag)(vs:List V)(H:Hp)(Q:VK)(E9:XK):Prop
 | mk (l:Addr) (ns:List Int) (i:Nat) (_:vs=[.ref l,.int i]) (_:zX K H l (ns.map V.int)) (_:Q (.int (vZ ns i)) H):Jc K vs H Q E9
end uU
namespace L2
theorem zn8 {σ:St}{H:Hp}{Q:Bool->Hp->Prop}(h:Q true H):Vx σ H Q:=h
end L2
namespace uU
open PySem L2 yF
theorem Sn.LQ:∀s:Sn,s.count+1<=2^s.depth:=by
 have key:∀(d:Nat) (s:Sn),s.depth<=d->s.count+1<=2^d:=by
  intro d
  induction d with
  | zero=>intro s h;have:=Sn.Mi s;omega
  | succ d ih =>
   intro s h
   have hp:=Sn.Ls s
   have hl:=Sn.QW s
   have hd:=Sn.UG s
   have hc:∀t∈s.parts,t.count+1<=2^d:=fun t ht=>ih t (by have:=hd t ht;omega)
   have p1:1<=2^d:=Nat.one_le_two_pow
   rw[Nat.pow_succ,hp]
   match hs:s.parts,hl with
   | [],_=>simp;omega
   | [a],_ =>
    have:=hc a (by rw[hs];simp)
    simp;omega
   | [a,b],_ =>
    have h1:=hc a (by rw[hs];simp)
    have h2:=hc b (by rw[hs];simp)
    simp;omega
   | a::b::c::r,h=>simp at h
 exact fun s=>key _ s (zrI _)
end uU
namespace L2
open PySem PySem.Spec PyProof.Rows
theorem zmr {x:V}{p q:Prop}(h:q):if (!decide (x=x))=true then p else q:=by
 rw[decide_eq_true rfl]
 exact h
theorem zhA {x y:V}{p q:Prop}(e:x=y)(h:q):if (!decide (x=y))=true then p else q:=by
 subst e
 exact zmr h
section
variable {X:Cx}
theorem LR:∀{xs:List V} {us:List Value},xs.length=us.length->(∀(i:Nat) x u,xs[i]?=some x->us[i]?=some u->RelV x u)->Vals xs us
 | [],[],_,_=>.nil
 | [],_::_,h,_=>by cases h
 | _::_,[],h,_=>by cases h
 | x::xs,u::us,h,r=>.cons (r 0 x u rfl rfl) (LR (Nat.succ.inj h) fun i x u hx hu=>r (i+1) x u hx hu)
def Ka (n:Nat):List V:=(List.range n).map fun i=>V.int (i:Nat)
def tLR (ta:TA):TE:=fun σ H Q=>ta σ H fun vs H1=>∃n:Nat,vs=[.int (n:Nat)]/\n<=1000000/\∀l,H1 l=none->Q (.ref l) (upd H1 l (.lst (Ka n)))
theorem zca {e:Expr}{ta:TA}{p p2 pos pos2:Pos}(hc:X.calm=true)(hg:Gl X "list")(hm:X.mg "list"=none)(hg2:Gl X "range")(hm2:X.mg "range"=none)(ha:PA X [e] ta)
  (hs:starEach [e] X.env=[(false,eval e X.env)]:=by rfl)
  (hs2:starEach [.Call (.Name "range" p2) [e] [] pos2] X.env=[(false,eval (.Call (.Name "range" p2) [e] [] pos2) X.env)]:=by rfl) :
  PE X (.Call (.Name "list" p) [.Call (.Name "range" p2) [e] [] pos2] [] pos) (tLR ta):=by
 intro pins s σ H Q I h
 refine wpAny_Call_Name_kw (Ws I hg hm Vy ?_ (by decide) (by decide))
 refine PyProof.Rows.callWith_type1 ?_ hs2 rfl
 rw[hs2]
 show wpAny _ _ (spliced ((false,eval (.Call (.Name "range" p2) [e] [] pos2) X.env)::[])) _ _ s
 refine Calls.spliced_cons ?_
 refine Call_ (Ws I hg2 hm2 boot_range (PyProof.Rows.callWith_type1 (wQ (ha pos2 pins s σ H _ I h) fun us s1 ⟨vs,H1,I1,r1,q1⟩=>?_) hs rfl))
 obtain⟨n,e1,hn,q⟩:=q1
 subst e1
 obtain⟨u,rfl,ru⟩:=vals1 r1
 obtain⟨t,rfl⟩:=ru
 refine call_range_1 (Calls.spliced_nil ?_)
 refine call_list_range (n:=n) (I1.ok.hd hc) (IsRange.new ..) (small_one (by omega) (by omega) (by omega) (by omega)) (by rw[rangeSize_one];split<;>omega) (by omega) fun h' tk acc' c' kp e0 ac=>?_
 have I2:=I1.kept (t':=s1.toks+1+1) (h':=s1.heap.push { cls:=.type "range", data:=.fields #[.int 0 s1.toks,.int n t,.int 1 (s1.toks+1)] }) fun b o e=>zry _ e
 have hl:acc'.size=n:=ac.1
 have rv:Vals (Ka n) acc'.toList:=by
  refine LR (by simp[Ka,hl]) fun i x u hx hu=>?_
  have hi:i<n:=by
   have:=(zrv.mp hx).1
   simpa [Ka] using this
  unfold Ka at hx
  rw[zru,List.getElem?_range hi] at hx
  cases hx
  obtain⟨t',rfl⟩:=ac.2 i u (by simpa using hu)
  exact⟨t',by simp⟩
 exact⟨.ref _,_,I2.laid (t':=tk) (o:=.lst (Ka n)) kp (zrI _) ⟨by unfold Ka;rw[zrs,zrK];exact zrO hn (by decide),acc'.toList,c',rv,by simpa using e0⟩,rfl,q _ (I2.hok.fresh (zrI _))⟩
end
end L2
namespace yF
open uU
def anyB (n:Nat)(f:Nat->Bool):Bool:=(List.range (2^n)).any f
theorem anyB_iff {n:Nat}{f:Nat->Bool}:anyB n f=true↔∃b,b<2^n/\f b=true:=by
 unfold anyB
 rw[List.any_eq_true]
 exact⟨fun⟨b,h,e⟩=>⟨b,List.mem_range.mp h,e⟩,fun⟨b,h,e⟩=>⟨b,List.mem_range.mpr h,e⟩⟩
theorem vH {n N:Nat}{f:Nat->Bool}(h:zN n N f):decide (N=0)=!anyB n f:=by
 by_cases e:N=0
 ·subst e
  rw[decide_eq_true rfl]
  cases hb:anyB n f with
  | false=>rfl
  | true =>
   obtain⟨b,hb,e⟩:=anyB_iff.mp hb
   have:=Zn h hb
   rw[e,Nat.zero_testBit] at this
   cases this
 ·rw[decide_eq_false e]
  cases hb:anyB n f with
  | true=>rfl
  | false =>
   exfalso
   refine e (Nat.eq_of_testBit_eq fun i=>?_)
   rw[h i,Nat.zero_testBit]
   by_cases hi:i<2^n
   ·cases hf:f i with
    | false=>rw[Bool.and_false]
    | true=>rw[anyB_iff.mpr ⟨i,hi,hf⟩] at hb;cases hb
   ·rw[decide_eq_false hi];rfl
def fvP (n:Nat):(Nat->Bool)->List Nat->List Bool
 | _,[]=>[]
 | f,p::ps=>(!anyB n fun b=>f (zE b p false))::fvP n (fun b=>f (zE b p (!anyB n fun b=>f (zE b p false)))) ps
def mix:Nat->List Bool->Nat->Nat
 | _,[],b=>b
 | i,v::r,b=>zE (mix (i+1) r b) i v
theorem Ph:∀(r:List Bool) (i:Nat) (v:Bool) (b:Nat),mix i (r++[v]) b=mix i r (zE b (i+r.length) v)
 | [],i,v,b=>rfl
 | u::r,i,v,b=>by
  show zE (mix (i+1) (r++[v]) b) i u=zE (mix (i+1) r (zE b (i+(r.length+1)) v)) i u
  rw[Ph r (i+1) v b,show i+1+r.length=i+(r.length+1) by omega]
theorem zhB {n:Nat}:∀(r:List Bool) (i b:Nat),i+r.length<=n->b<2^n->mix i r b<2^n
 | [],i,b,_,hb=>hb
 | v::r,i,b,h,hb=>by
  rw[zrE] at h
  exact zP (zhB r (i+1) b (by omega) hb) (by omega)
theorem zfI:∀(r:List Bool) (i b j:Nat),i<=j->j<i+r.length->(mix i r b).testBit j=r.getD (j-i) false
 | [],i,b,j,h1,h2=>by rw[List.length_nil] at h2;omega
 | v::r,i,b,j,h1,h2=>by
  show(zE (mix (i+1) r b) i v).testBit j=_
  rw[zM]
  by_cases e:j=i
  ·subst e
   rw[if_pos rfl,Nat.sub_self]
   rfl
  ·rw[zrE] at h2
   rw[if_neg e,zfI r (i+1) b j (by omega) (by omega)]
   obtain⟨m,rfl⟩:∃m,j=i+1+m:=⟨j-(i+1),by omega⟩
   rw[show i+1+m-(i+1)=m by omega,show i+1+m-i=m+1 by omega]
   rfl
theorem zfJ {n:Nat}{r:List Bool}{b:Nat}(hl:r.length=n)(hb:b<2^n):mix 0 r b=vU r:=by
 have hr:=JF r
 rw[hl] at hr
 refine Zm (zhB r 0 b (by omega) hb) hr fun i hi=>?_
 rw[zfI r 0 b i (zrP _) (by omega),Lw,Nat.sub_zero,zrF]
def KN (n:Nat)(f:Nat->Bool):Nat->List Bool
 | 0=>[]
 | i+1=>KN n f i++[!anyB n fun b=>f (mix 0 (KN n f i++[false]) b)]
theorem zdr (n:Nat)(f:Nat->Bool):∀i,(KN n f i).length=i
 | 0=>rfl
 | i+1=>by show(_++[_]).length=_;rw[zrA,zdr n f i];rfl
theorem zbo (n:Nat)(f:Nat->Bool):∀(m i:Nat),KN n f (i+m)=KN n f i++fvP n (fun b=>f (mix 0 (KN n f i) b)) (List.range' i m)
 | 0,i=>by show _=_++[];rw[List.append_nil];rfl
 | m+1,i=>by
  have hl:=zdr n f i
  have e1:∀v b,mix 0 (KN n f i) (zE b i v)=mix 0 (KN n f i++[v]) b:=fun v b=>by rw[Ph,hl,Nat.zero_add]
  rw[show i+(m+1)=i+1+m by omega,zbo n f m (i+1),List.range'_succ]
  show(KN n f i++[_])++_=KN n f i++(_::_)
  rw[List.append_assoc]
  simp only[e1]
  rfl
theorem zgo (n:Nat)(f:Nat->Bool):fvP n f (List.range n)=KN n f n:=by
 have:=zbo n f n 0
 rw[Nat.zero_add] at this
 rw[this,List.range_eq_range']
 rfl
theorem zbp {p q:List Bool->Bool}:∀{l:List (List Bool)} {x:List Bool},(∀r∈l,p r=(q (r++[false])||q (r++[true])))->(l.filter p).head?=some x ->
  ((l.flatMap fun r=>[r++[false],r++[true]]).filter q).head?=some (x++[!q (x++[false])])
 | [],x,_,h=>by cases h
 | r::l,x,hp,h=>by
  have hr:=hp r zrM
  rw[List.flatMap_cons,zr6]
  cases hpr:p r with
  | true =>
   rw[List.filter_cons_of_pos hpr] at h
   have ex:r=x:=zrX h
   subst ex
   rw[hpr] at hr
   cases h0:q (r++[false]) with
   | true=>rw[List.filter_cons_of_pos h0];rfl
   | false =>
    rw[h0,Bool.false_or] at hr
    rw[List.filter_cons_of_neg (by rw[h0];exact zrw),List.filter_cons_of_pos hr.symm]
    rfl
  | false =>
   rw[List.filter_cons_of_neg (by rw[hpr];exact zrw)] at h
   rw[hpr] at hr
   have h0:q (r++[false])=false:=by cases hh:q (r++[false]) with | false=>rfl | true=>rw[hh] at hr;cases hr
   have h1:q (r++[true])=false:=by cases hh:q (r++[true]) with | false=>rfl | true=>rw[hh,Bool.or_true] at hr;cases hr
   rw[List.filter_cons_of_neg (by rw[h0];exact zrw),List.filter_cons_of_neg (by rw[h1];exact zrw)]
   exact zbp (fun r' hr'=>hp r' (zrD _ hr')) h
theorem zds {n:Nat}{f:Nat->Bool}(h:anyB n f=true):∀i,i<=n->((allR i).filter fun r=>anyB n fun b=>f (mix 0 r b)).head?=some (KN n f i)
 | 0,_=>by
  show(List.filter _ [[]]).head?=_
  have e:(anyB n fun b=>f (mix 0 [] b))=true:=h
  rw[List.filter_cons_of_pos (p:=fun r=>anyB n fun b=>f (mix 0 r b)) e]
  rfl
 | i+1,hi=>by
  refine zbp (fun r hr=>?_) (zds h i (by omega))
  have hl:=Pg i r hr
  rw[zr8,Bool.or_eq_true,anyB_iff,anyB_iff,anyB_iff]
  constructor
  ·rintro⟨b,hb,e⟩
   have e2:mix 0 (r++[b.testBit i]) b=mix 0 r b:=by rw[Ph,Nat.zero_add,hl,yD]
   cases hv:b.testBit i with
   | false=>rw[hv] at e2;exact .inl ⟨b,hb,by rw[e2];exact e⟩
   | true=>rw[hv] at e2;exact .inr ⟨b,hb,by rw[e2];exact e⟩
  ·rintro (⟨b,hb,e⟩ | ⟨b,hb,e⟩)<;>rw[Ph,Nat.zero_add,hl] at e<;>exact⟨_,zP hb (by omega),e⟩
theorem zeJ {n:Nat}{f:Nat->Bool}(h:anyB n f=true):((allR n).filter fun r=>f (vU r)).head?=some (fvP n f (List.range n)):=by
 rw[zgo,<-zds h n (zrI _)]
 congr 1
 refine List.filter_congr fun r hr=>?_
 have hl:=Pg n r hr
 rw[zr8,anyB_iff]
 constructor
 ·intro e
  exact⟨0,Nat.two_pow_pos n,by rw[zfJ hl (Nat.two_pow_pos n)];exact e⟩
 ·rintro⟨b,hb,e⟩
  rw[zfJ hl hb] at e
  exact e
end yF
namespace uU
open PySem L2 yF
inductive Wx (K:Frag)(vs:List V)(H:Hp)(Q:VK)(E9:XK):Prop
 | mk (N n:Nat) (f:Nat->Bool) (pl:Addr) (ps:List Nat) (_:vs=[.int N,.ref pl,.int n]) (_:n<=8) (_:zN n N f) (_:zX K H pl (ps.map fun p=>V.int (p:Nat))) (_:(∀p∈ps,p<n)) (_:ps.length<=1000) (_:∀(l:Addr) (H':Hp),Same H H'->H l=none->H' l=some (.lst (Uo (fvP n f ps)))->Q (.ref l) H'):Wx K vs H Q E9
inductive RW (vs:List V)(H:Hp)(Q:VK)(E9:XK):Prop
 | mk (N n:Nat) (f:Nat->Bool) (_:vs=[.int N,.int n]) (_:n<=8) (_:zN n N f) (_:anyB n f=true) (_:∀(l:Addr) (H':Hp) (r:List Bool),Same H H'->H l=none->H' l=some (.lst (Uo r))->((allR n).filter fun r=>f (vU r)).head?=some r->Q (.ref l) H'):RW vs H Q E9
end uU
namespace L2
open PySem PySem.Spec PyProof.Rows
section
variable {X:Cx}
def tLV (to:TE):TE:=fun σ H Q=>to σ H fun x H1=>∃(d:Addr) (kvs:List (Key×V)),x=.ref d/\H1 d=some (.dK kvs)/\∀l,H1 l=none->Q (.ref l) (upd H1 l (.lst (kvs.map (·.2))))
theorem Kc {o:Expr}{to:TE}{p apos cpos pos:Pos}(hc:X.calm=true)(hg:Gl X "list")(hm:X.mg "list"=none)(ho:PE X o to)
  (hbase:attributeBase o "values" X.env (eval o X.env)=eval o X.env:=by rfl)(hline:(apos.endLine==cpos.line)=true:=by rfl)
  (hs2:starEach [.Call (.Attribute o "values" apos) [] [] cpos] X.env=[(false,eval (.Call (.Attribute o "values" apos) [] [] cpos) X.env)]:=by rfl) :
  PE X (.Call (.Name "list" p) [.Call (.Attribute o "values" apos) [] [] cpos] [] pos) (tLV to):=by
 intro pins s σ H Q I h
 refine wpAny_Call_Name_kw (Ws I hg hm Vy ?_ (by decide) (by decide))
 refine PyProof.Rows.callWith_type1 ?_ hs2 rfl
 rw[hs2]
 show wpAny _ _ (spliced ((false,eval (.Call (.Attribute o "values" apos) [] [] cpos) X.env)::[])) _ _ s
 refine Calls.spliced_cons ?_
 refine wpAny_Call_method0_late hbase hline (wQ (ho pins s σ H _ I h) fun v s1 ⟨x,H1,I1,r1,q1⟩=>?_)
 obtain⟨d,kvs,rfl,hd,q⟩:=q1
 obtain⟨h1,h2⟩:=zbT (T := "dict") I1 r1 (.inr (.inr (.inl ⟨rfl,.inl ⟨kvs,hd⟩⟩)))
 cases r1
 obtain⟨hz,lo,vs,rv,hD⟩:=(show kvs.length<=sizeLine/\(d==sysModules)=false/\∃vs,KV kvs vs/\s1.heap.DictOf (yc X.prog X.w) d vs from I1.hok d _ hd)
 obtain⟨ep,hat⟩:=hD.dictAt
 have hl:kvs.length=vs.length:=Paired.length rv
 refine⟨"dict", "dict.values", PySem.F.plainAttrs_dict,PySem.F.slot_dict_values,PySem.F.type_dict_values,h1,h2,Calls.callWith_builtin rfl (PySem.evalArgs_none ?_)⟩
 refine call_meetsIn PySem.F.slot_dict_values hD.typeIs PySem.F.entry_dict_values (PySem.F.args_dict_values_1 _) (meets_dict_values (yc X.prog X.w) d lo) ⟨⟨vs,hD⟩,Calls.spliced_nil ?_⟩
 have I2:=I1.kept (t':=s1.toks) (h':=s1.heap.push { cls:=.type "dict_values", data:=.fields #[.ref d] }) fun b o e=>zry _ e
 obtain⟨hz2,lo2,vs2,rv2,hD2⟩:=(show kvs.length<=sizeLine/\(d==sysModules)=false/\∃vs,KV kvs vs/\(s1.heap.push { cls:=.type "dict_values", data:=.fields #[.ref d] }).DictOf (yc X.prog X.w) d vs from I2.hok d _ hd)
 obtain⟨ep2,zhC⟩:=hD2.dictAt
 have hl2:kvs.length=vs2.length:=Paired.length rv2
 refine PySem.W.kdl_call (PySem.W.kdl_values (knd:=yc X.prog X.w) (r:=s1.heap.objs.size) (d:=d) (kvs:=vs2) (ep:=ep2)) (I1.ok.hd hc) ⟨⟨_,zrN _ rfl,rfl,rfl⟩,zhC⟩ (by omega) fun h' tk acc c hk hS hacc=>?_
 refine⟨.ref _,_,I2.laid (t':=tk) (o:=.lst (kvs.map (·.2))) hk (zrI _) ?_,rfl,q _ (I2.hok.fresh (zrI _))⟩
 refine⟨by rw[zrs];exact hz,acc.toList,c,?_,by simpa using hS⟩
 refine Q7 (by rw[zrs];have:=hacc.1;simp;omega) fun j v hv=>?_
 obtain⟨k,hx⟩:=hacc.2 j v (by rw[<-Array.getElem?_toList];exact hv)
 obtain⟨y,hy,e1,e2⟩:=QV rv2 hx
 exact⟨y.2,by rw[zru,hy];rfl,e2⟩
end
end L2
namespace uU
open PySem L2 yF PyProof.Rows
theorem zhD {K:Frag}{os:List Str}{H:Hp}{n:Nat}{p q:Addr}{rs:List Rm}{xs ys:List V}(hp:zX K H p xs)(hq:zX K H q ys)(rx:Xk os H rs xs)(ry:Xk os H rs ys)(lx:xs.length=rs.length)(ly:ys.length=rs.length):RQ K H (n+2) (.ref p) (.ref q) true:=by
 refine zj4 hp hq (lx.trans ly.symm) fun j x y hx hy=>?_
 obtain⟨u,a1,a2⟩:=rx.2 j x hx
 obtain⟨v,b1,b2⟩:=ry.2 j y hy
 rw[a1] at b1
 cases b1
 exact zi6 a2 b2
end uU
namespace L2
open PySem PySem.Spec PyProof.Rows PySem.Builtin PySem.Builtin.Str
section
variable {X:Cx}
def zk4 (b:Bool):Str:=⟨#[uU.chc b]⟩
end
end L2
namespace yF
open PySem uU
def upR (n:Nat)(x:Rm):Bool:=match x with | some (i,_,_)=>decide (i+2<n) | none=>false
def hiN (n:Nat)(rs:List Rm):Nat:=(rs.filter (upR n)).length
theorem zja {n:Nat}{rs:List Rm}{p lo hi:Nat}:hiN n (rs++[some (p,lo,hi)])=hiN n rs+if p+2<n then 1 else 0:=by
 unfold hiN
 rw[zr6,zrA]
 congr 1
 by_cases h:p+2<n
 ·rw[if_pos h,List.filter_cons_of_pos (show upR n (some (p,lo,hi))=true from decide_eq_true h)]
  rfl
 ·rw[if_neg h,List.filter_cons_of_neg (show ¬upR n (some (p,lo,hi))=true from fun z=>h (of_decide_eq_true z))]
  rfl
def zjb (n:Nat)(rs:List Rm)(k:Nat):Bool×Bool×Bool×Bool :=
 (yes rs k (fun i=>if i+1=n then false else false),yes rs k (fun i=>if i+1=n then true else false),yes rs k (fun i=>if i+1=n then false else true),yes rs k (fun i=>if i+1=n then true else true))
theorem zjc {n:Nat}{rs:List Rm}(B:Bk n rs){j k:Nat}(hj:j<rs.length)(hk:k<rs.length)(lj:n<=Vt n rs j+2)(lk:n<=Vt n rs k+2)(e:zjb n rs j=zjb n rs k):j=k:=by
 unfold zjb at e
 rw[Prod.mk.injEq,Prod.mk.injEq,Prod.mk.injEq] at e
 obtain⟨e0,e1,e2,e3⟩:=e
 have key:∀{m:Nat},m<rs.length->n<=Vt n rs m+2->∀r:Row,yes rs m r=yes rs m (fun i=>if i+1=n then r (n-1) else r (n-2)):=fun {m} hm lm r=>by
  refine W6 B m m (zrI _) hm fun i h1 h2=>?_
  by_cases h:i+1=n
  ·rw[if_pos h,show i=n-1 by omega]
  ·rw[if_neg h,show i=n-2 by omega]
 refine Zj B (max j k) j k ⟨Nat.le_max_left _ _,Nat.le_max_right _ _⟩ hj hk fun r=>?_
 rw[key hj lj r,key hk lk r]
 cases r (n-1)<;>cases r (n-2)
 ·exact e0
 ·exact e2
 ·exact e1
 ·exact e3
def zms:List (Bool×Bool×Bool×Bool):=[false,true].flatMap fun a=>[false,true].flatMap fun b=>[false,true].flatMap fun c=>[false,true].map fun d=>(a,b,c,d)
theorem zhE:∀x:Bool×Bool×Bool×Bool,x∈zms:=by
 rintro⟨a,b,c,d⟩
 cases a<;>cases b<;>cases c<;>cases d<;>decide
theorem zdu {α:Type}(f:α->Bool)(d:α):∀l:List α,(l.filter f).length=((List.range l.length).filter fun i=>f (l.getD i d)).length
 | []=>rfl
 | a::l=>by
  have ih:=zdu f d l
  rw[zrE,List.range_succ_eq_map,List.filter_cons,List.filter_cons,List.filter_map,]
  have e:((List.range l.length).filter ((fun i=>f ((a::l).getD i d)) ∘ Nat.succ))=((List.range l.length).filter fun i=>f (l.getD i d)):=rfl
  rw[e]
  show(if f a=true then a::l.filter f else l.filter f).length=(if f a=true then 0::_ else _).length
  cases f a
  ·rw[if_neg zrw,if_neg zrw,zrs]
   exact ih
  ·rw[if_pos rfl,if_pos rfl,zrE,zrE,zrs,ih]
theorem zbr {α:Type}(f:α->Bool):∀l:List α,l.length=(l.filter f).length+(l.filter fun a=>!f a).length
 | []=>rfl
 | a::l=>by
  have ih:=zbr f l
  cases h:f a
  ·rw[List.filter_cons_of_neg (by rw[h];exact zrw),List.filter_cons_of_pos (p:=fun a=>!f a) (by rw[h];rfl),zrE,zrE]
   omega
  ·rw[List.filter_cons_of_pos h,List.filter_cons_of_neg (p:=fun a=>!f a) (by rw[h];exact zrw),zrE,zrE]
   omega
theorem zhF {n:Nat}{rs:List Rm}(B:Bk n rs):rs.length<=hiN n rs+16:=by
 have e1:=zbr (fun i=>upR n (rs.getD i none)) (List.range rs.length)
 rw[zrK,<-zdu] at e1
 have e2:((List.range rs.length).filter fun i=>!upR n (rs.getD i none)).length<=16:=by
  have nd:(((List.range rs.length).filter fun i=>!upR n (rs.getD i none)).map (zjb n rs)).Nodup:=by
   have h:=(List.nodup_range (n:=rs.length)).filter (fun i=>!upR n (rs.getD i none))
   show List.Pairwise _ _
   rw[List.pairwise_map]
   refine List.Pairwise.imp_of_mem (fun {j k} hj hk ne e=>ne ?_) h
   obtain⟨j1,j2⟩:=List.mem_filter.mp hj
   obtain⟨k1,k2⟩:=List.mem_filter.mp hk
   have lv:∀m,m<rs.length->(!upR n (rs.getD m none))=true->n<=Vt n rs m+2:=fun m hm hu=>by
    unfold Vt
    rw[zrF] at hu
    cases hx:rs[m]? with
    | none=>show n<=n+2;omega
    | some x =>
     rw[hx] at hu
     cases x with
     | none=>show n<=n+2;omega
     | some t =>
      obtain⟨i,lo,hi⟩:=t
      have:¬i+2<n:=fun z=>by
       have:upR n (some (i,lo,hi))=true:=decide_eq_true z
       simp[this] at hu
      show n<=i+2
      omega
   exact zjc B (List.mem_range.mp j1) (List.mem_range.mp k1) (lv j (List.mem_range.mp j1) j2) (lv k (List.mem_range.mp k1) k2) e
  have:=QT nd (ys:=zms) fun x _=>zhE x
  rw[zrs] at this
  exact this
 unfold hiN
 omega
def bH (n u:Nat):Nat:=2^(n-2-u)-1
theorem zjd {n u p:Nat}(h:u<=p):bH n (p+1)+bH n (p+1)+(if p+2<n then 1 else 0)<=bH n u:=by
 unfold bH
 by_cases hp:p+2<n
 ·rw[if_pos hp]
  have e:n-2-p=(n-2-(p+1))+1:=by omega
  have m:2^(n-2-p)<=2^(n-2-u):=zrY (by decide) (by omega)
  have p1:1<=2^(n-2-(p+1)):=Nat.one_le_two_pow
  rw[e,Nat.pow_succ] at m
  omega
 ·rw[if_neg hp,show n-2-(p+1)=0 by omega]
  show 1-1+(1-1)+0<=_
  omega
theorem zmt {n:Nat}(h:n<=8):bH n 0<=63:=by
 have:2^(n-2-0)<=2^6:=zrY (by decide) (by omega)
 have e:2^6=64:=rfl
 unfold bH
 omega
end yF
namespace uU
open PySem L2 yF
section
variable (C:Addr)(K:Frag)
inductive vm (d:Nat)(vs:List V)(H:Hp)(Q:VK)(E9:XK):Prop
 | mk (b:Addr) (os:List Str) (rs:List Rm) (F:xu) (t u:Nat) (f:Nat->Bool) (_:vs=[.ref b,.int t]) (_:zW C H b os rs F) (_:rs.length+2^d<=9000000) (_:u<=os.length) (_:os.length+1<=u+d) (_:zN os.length t f) (_:(∀i,i<u->Free os.length f i)) (_:∀(k:Nat) (rs':List Rm) (H':Hp),zhu F H H'->yH H H'->zW C H' b os rs' F->wN rs rs'->k<rs'.length->(∀r,yes rs' k r=f (bits r os.length))->rs'.length+1<=rs.length+2^d->(∀j,rs.length<=j->j<rs'.length->u<=Vt os.length rs' j)->hiN os.length rs'<=hiN os.length rs+bH os.length u->Q (.int (k:Nat)) H'):vm d vs H Q E9
def zhG (b:Addr)(os:List Str)(H:Hp)(rs:List Rm)(F:xu)(f:Row->Bool)(Q:VK):Prop:=∀(k:Nat) (rs':List Rm) (H':Hp),zhu F H H'->yH H H'->zW C H' b os rs' F->wN rs rs'->Means rs' k f->hiN os.length rs'<=hiN os.length rs+63->Q (.int (k:Nat)) H'
inductive JR (vs:List V)(H:Hp)(Q:VK)(E9:XK):Prop
 | mk (b p:Addr) (os:List Str) (rs:List Rm) (F:xu) (s:Sn) (_:vs=[.ref b,.ref p]) (_:zW C H b os rs F) (_:rs.length<=8000000) (_:Ra H s p) (_:s.QK os) (_:s.count<=200) (_:s.depth<=24) (_:zhG C b os H rs F (fun r=>s.val (zhv os r)) Q):JR vs H Q E9
end
theorem JT {C b:Addr}{os:List Str}{H H1:Hp}{rs:List Rm}{F:xu}{fm:Row->Bool}{Q:VK}{t:Nat}{f:Nat->Bool}(g1:Same H H1)(hB:zW C H1 b os rs F)(hl:rs.length<=8000000)(tb:zN os.length t f)(ef:∀r,f (bits r os.length)=fm r)
  (q:zhG C b os H rs F fm Q):vm C 9 [.ref b,.int t] H1 Q (fun _ _ _=>False):=by
 have ho:=(yW C).ord hB
 refine⟨b,os,rs,F,t,0,f,rfl,hB,by show rs.length+512<=9000000;omega,zrP _,by have:=ho.le;omega,tb,fun i hi=>absurd hi (Nat.not_lt_zero _),fun j rs' H' aw tu hB' gr lt y ln _ hh=>?_⟩
 exact q j rs' H' (fun x o e nf=>aw x o (g1 _ _ e) nf) (fun x xs e=>tu _ _ (g1 _ _ e)) hB' gr ⟨lt,fun r=>(y r).trans (ef r)⟩ (zrO hh (Nat.add_le_add_left (zmt ho.le) _))
structure RX (C:Addr)(H0:Hp)(b:Addr)(os:List Str)(m:Nat)(H:Hp)(rs:List Rm)(F:xu):Prop where
 same:Same H0 H
 away:∀x,F x->H0 x=none
 bk:zW C H b os rs F
 hi:hiN os.length rs<=m
section
variable {C:Addr}{H0:Hp}{b:Addr}{os:List Str}{m:Nat}{H:Hp}{rs:List Rm}{F:xu}
theorem RX.len (h:RX C H0 b os m H rs F):rs.length<=m+16:=zrO (zhF ((yW C).bk h.bk)) (Nat.add_le_add_right h.hi _)
theorem RX.new (h:RX C H0 b os m H rs F){H':Hp}(g:Same H H'):RX C H0 b os m H' rs F:=⟨h.same.trans g,h.away,(yW C).same h.bk g,h.hi⟩
end
end uU
namespace L2
open PySem PySem.Spec PyProof.Rows
theorem zje {K:Frag}{a b:Addr}{xs ys:List V}{g:TG}{tb:TS}{D:Ends}{σ:St}{H:Hp}(hlen:xs.length=ys.length)(Pv:Nat->St->Hp->Prop)(h0:Pv 0 σ H)(hl:∀i σ H,i<=xs.length->Pv i σ H->zX K H a xs/\zX K H b ys)
  (hs:∀i x y σ H p,xs[i]?=some x->ys[i]?=some y->Pv i σ H->H p=none->g (.ref p) σ (upd H p (.tup [x,y])) fun σ2 H2=>tb { D with nx:=Pv (i+1),ct:=Pv (i+1),bk:=D.nx } σ2 H2)(hd:∀ σ H,Pv xs.length σ H->D.nx σ H) :
  ∃W:Nat->Nat->St->Hp->Prop,(∃m,W 0 m σ H)/\∀i m σ H,W i m σ H ->
   ((Itz K a b).stop i H/\D.nx σ H)\/((Itz K a b).go i H/\∃N:St->Hp->Prop,(∀ σ' H',N σ' H'->∃m',m'<m/\W (i+1) m' σ' H')/\∀x H',(Itz K a b).Qs i H x H'->g x σ H' fun σ2 H2=>tb { D with nx:=N,ct:=N,bk:=D.nx } σ2 H2):=by
 refine⟨fun i m σ H=>m=xs.length-i/\i<=xs.length/\Pv i σ H,⟨xs.length,by simp,zrP _,h0⟩,?_⟩
 rintro i m σ H ⟨rfl,hi,p⟩
 obtain⟨q,q'⟩:=hl i σ H hi p
 by_cases hlt:i<xs.length
 ·refine .inr ⟨⟨xs,ys,_,_,q,q',zrt hlt,zrt (l:=ys) (i:=i) (by omega)⟩,Pv (i+1),fun σ' H' p'=>⟨xs.length-(i+1),by omega,rfl,hlt,p'⟩,fun x H' y=>?_⟩
  obtain⟨pp,u,v,hu,hv,rfl,hn,rfl⟩:=y
  exact hs i u v σ H pp (hu xs q) (hv ys q') p hn
 ·have e:i=xs.length:=by omega
  subst e
  exact .inl ⟨⟨xs,ys,q,q',.inl (zrI _)⟩,hd σ H p⟩
theorem zjf {X:Cx}{sc vX:Scope}{x y:Str}{js:List Nat}{elt iter c:Expr}{px py pt pos:Pos}{x1:Nat}{wi:TI}{te:TE}{tt:TT}(Xi:X.env.scope=vX)(L:zfH vX sc x y (js.map fun j=>X.N.getD j ""))(hc:X.calm=true)(hi:PI X (.Tuple [.Name x px,.Name y py] x1 pt) iter wi)(hjs:∀j∈js,j<X.N.length)
  (ht:∀(cl:List (Str×Addr)) (C:Addr) (s₂:Shared) (H₂:Hp) (fp:List Addr),PT (X.blk sc cl C (Um X [x,y] js) s₂ H₂ fp) c tt)
  (he:∀(cl:List (Str×Addr)) (C:Addr) (s₂:Shared) (H₂:Hp) (fp:List Addr),PE (X.blk sc cl C (Um X [x,y] js) s₂ H₂ fp) elt te)
  (hs:∀x,foldedSetIterable iter X.env x=pure x:=by intro _;rfl) :
  PE X (.ListComp elt [⟨.Tuple [.Name x px,.Name y py] x1 pt,iter,[c],0⟩] sc pos) (zkK wi [x,y] js (zgP X.K 2 (Qv (XQ 0) (Qv (XQ 1) zgO))) tt te) :=
 zk1 Xi L.g hc hi (fun cl C s₂ H₂ fp=>zfG (X:=X.blk sc cl C (Um X [x,y] js) s₂ H₂ fp) hc L.nd rfl rfl (lookup_relabel_local L.hx) (lookup_relabel_local L.hy)) hjs (fun cl C s₂ H₂ fp pins s' σ' H' Q I h=>wpAny_tests_one (ht cl C s₂ H₂ fp pins s' σ' H' Q I h)) he hs
end L2
namespace uU
open PySem L2 yF
def RZ (ps:List Nat):List V:=ps.map fun p=>V.int (p:Nat)
theorem zfK {os:List Str}{x:Str}:inV (.str x) (os.map V.str)=os.contains x:=by
 unfold inV
 rw[List.any_map]
 induction os with
 | nil=>rfl
 | cons a l ih =>
  rw[List.any_cons,List.contains_cons,ih]
  show((a==x)||l.contains x)=((x==a)||l.contains x)
  rw[Bool.beq_comm]
theorem zjg {a b:Nat}(h:∀i,a.testBit i=b.testBit i):a=b:=Nat.eq_of_testBit_eq h
end uU
namespace L2
open PySem PySem.Spec PyProof.Rows PySem.W
section
variable {prog:Program}{w:World}{A:Around}{E:Value->Shared->Prop}{κ:SortKind}{it:Array Keyed}{s:Shared}
def Mv (prog:Program)(w:World)(A:Around)(κ:SortKind)(it:Array Keyed)(s:Shared)(lt:Nat->Nat->Bool)(N:Nat):Prop:=∀i j,i<N->j<N->∀C:Bool->Shared->Prop,C (lt i j) s->kas_cmp prog w A κ it i j C s
variable {lt:Nat->Nat->Bool}{N:Nat}
theorem zdv {x y:Nat}{st:SortSt}{Q:Option Bool->SortSt->Shared->Prop}(hc:Mv prog w A κ it s lt N)(hx:x<N)(hy:y<N)(hk:kindOf st=κ)(q:Q (some (lt x y)) st s) :
  kasC (model prog w) A E (lt' (kas_item it x) (kas_item it y)) Q st s:=by
 rw[lt'_eq]
 refine kasC_bind (kasC_get ?_)
 rw[hk]
 exact kasC_bind (kasC_lift (wpAny_attempt (wpAny_mono (hc x y hx hy (fun c s'=>c=lt x y/\s'=s) ⟨rfl,rfl⟩) (fun c s' e=>by obtain⟨rfl,rfl⟩:=e;exact kasC_pure q) fun _ _ hF=>hF.elim)))
theorem xQ {arr:Array Keyed}{i:Nat}{v:Keyed}{st:SortSt}{Q:Keyed->SortSt->Shared->Prop}(h:arr[i]?=some v)(q:Q v st s):kasC (model prog w) A E (elem' arr i) Q st s:=by
 rw[elem'_eq,h]
 exact kasC_pure q
theorem yq {l:List Nat}{i x:Nat}(h:l[i]?=some x):(l.map (kas_item it)).toArray[i]?=some (kas_item it x):=by simp[h]
def plc (f:Nat->Bool):Nat->Nat->Nat->Nat
 | 0,l,_=>l
 | n+1,l,r=>if l >= r then l else if f ((l+r) / 2)=true then plc f n l ((l+r) / 2) else plc f n ((l+r) / 2+1) r
theorem zhH {α:Type}(P A B S:List α)(x:α):bubble (P++A++B++x::S).toArray (P.length+A.length+B.length) B.length=(P++A++x::B++S).toArray:=by
 have eL:P++A++B++x::S=(P++A)++(B++x::S):=by simp
 have eR:P++A++x::B++S=(P++A)++(x::(B++S)):=by simp
 have hl:P.length+A.length=(P++A).length:=by simp
 rw[eL,eR,hl]
 generalize P++A=P
 apply Array.ext'
 apply List.ext_getElem?
 intro k
 have e:=getElem?_bubble (xs:=(P++(B++x::S)).toArray) (src:=P.length+B.length) (by simp) B.length (by omega) k
 rw[Array.getElem?_toList,e]
 simp only[List.getElem?_toArray]
 by_cases h1:k=P.length+B.length-B.length
 ·rw[if_pos h1,List.getElem?_append_right (l₁:=P) (by omega),List.getElem?_append_right (l₁:=P) (by omega),Nat.add_sub_cancel_left,List.getElem?_append_right (by omega),Nat.sub_self,show k-P.length=0 by omega]
  rfl
 ·rw[if_neg h1]
  by_cases h2:P.length+B.length-B.length<k/\k<=P.length+B.length
  ·rw[if_pos h2,List.getElem?_append_right (l₁:=P) (by omega),List.getElem?_append_right (l₁:=P) (by omega),zrZ (l₁:=B) (by omega),show k-P.length=(k-1-P.length)+1 by omega,List.getElem?_cons_succ,zrZ (by omega)]
  ·rw[if_neg h2]
   by_cases h3:k<P.length
   ·rw[zrZ h3,zrZ h3]
   ·rw[List.getElem?_append_right (l₁:=P) (by omega),List.getElem?_append_right (l₁:=P) (by omega),List.getElem?_append_right (l₁:=B) (by omega),show k-P.length=(k-P.length-1)+1 by omega,List.getElem?_cons_succ,List.getElem?_append_right (by omega),show k-P.length-1+1-B.length=(k-P.length-1-B.length)+1 by omega,List.getElem?_cons_succ]
def gal':Bool->Keyed->Array Keyed->Nat->Nat->Nat->StateT SortSt Sem (Option Nat):=sortPriv% PySem.Builtin.gallop
def mlo':Array Keyed->Array Keyed->StateT SortSt Sem (Array Keyed):=sortPriv% PySem.Builtin.mergeLo
theorem zhI {σ:Type}{M:Model}{a:σ}{Q:PUnit->σ->Shared->Prop}{st:σ}(h:Q ⟨⟩ a s):kasC M A E (set a:StateT σ Sem PUnit) Q st s:=by
 unfold kasC;rw[StateT.run_set];exact wpAny_pure h
theorem zhJ {α:Type}:∀(ms pre mid suf:List α) (k:Nat),mid.length=ms.length->(ms.zipIdx k).foldl (fun(a:Array α) (pj:α×Nat)=>a.setIfInBounds (pre.length-k+pj.2) pj.1) (pre++mid++suf).toArray=(pre++ms++suf).toArray\/pre.length<k
 | [],pre,mid,suf,k,h=>by
  have:mid=[]:=List.length_eq_zero_iff.mp h
  subst this
  exact .inl rfl
 | m::ms,pre,[],suf,k,h=>by simp at h
 | m::ms,pre,c::mid,suf,k,h=>by
  by_cases hk:pre.length<k
  ·exact .inr hk
  ·refine .inl ?_
   have h':mid.length=ms.length:=by simpa using h
   rcases zhJ ms (pre++[m]) mid suf (k+1) h' with e | e
   ·rw[List.zipIdx_cons,List.foldl_cons]
    have e1:((pre++c::mid++suf).toArray).setIfInBounds (pre.length-k+k) m=(pre++[m]++mid++suf).toArray:=by
     rw[show pre.length-k+k=pre.length by omega]
     apply Array.toList_inj.mp
     simp
    dsimp only
    rw[e1]
    rw[show(pre++[m]).length-(k+1)=pre.length-k by simp] at e
    rw[e]
    simp
   ·simp at e
    omega
theorem zhK {l P B S:List Nat}{i j:Nat}(e:l=P++B++S)(h1:i=P.length)(h2:j=P.length+B.length):((l.map (kas_item it)).toArray).extract i j=(B.map (kas_item it)).toArray:=by
 subst e h1 h2
 apply Array.toList_inj.mp
 rw[Array.toList_extract]
 simp[List.extract,List.drop_append,List.take_append]
end
end L2
namespace uU
open PySem L2 yF
theorem zhL {K:Frag}{H:Hp}{n:Nat}{p q:Addr}{xs:List V}(hp:zX K H p xs)(hq:zX K H q xs)(hf:∀x∈xs,wD x=true):RQ K H (n+1) (.ref p) (.ref q) true :=
 zj4 hp hq rfl fun j x y hx hy=>by
  rw[hx] at hy
  cases hy
  exact zb9 (hf x (zrx hx))
end uU
namespace PySem
open Sem (wp)
namespace F
theorem zeK:typeLookup (.type "str") "__int__"=pure none:=by rw[typeLookup_type,builtinLookup_eq_fast];kernel_rfl
theorem zcb:typeLookup (.type "str") "__index__"=pure none:=by rw[typeLookup_type,builtinLookup_eq_fast];kernel_rfl
theorem zcc:typeLookup (.type "str") "__trunc__"=pure none:=by rw[typeLookup_type,builtinLookup_eq_fast];kernel_rfl
end F
theorem Pj (c:Str)(x:Nat)(n:Int)(u:Tok)(hA:(c.cps.all fun x=>decide (x<128))=true)(hL:c.cps.toList=[x])(hx:x=48/\n=0\/x=49/\n=1):Meets (Builtin.«int.__new__» ⟨[.type "int", .str c u],[]⟩) (Made.int n).spec :=
 Meets.of_wp fun prog w A R s hs=>by
  obtain⟨hp,g,d,tk,os⟩:=s
  have f1:=F.conv_sub_int
  have f2:=F.madeHere_int
  have hT:(⟨hp,g,d,tk,os⟩:Shared).TypeIs (.str c u) "str" := rfl
  have f3:=F.zeK
  have f4:=F.zcb
  have f5:=F.zcc
  repeat (any_goals (first | assumption | wp_step))
  rw[if_pos hA,hL]
  rcases hx with ⟨rfl,rfl⟩ | ⟨rfl,rfl⟩
  ·rw[if_pos (by decide)]
   refine wpAny_bind (wpAny_pure ?_)
   show wpAny _ _ (mkInt 0) _ _ _
   repeat (any_goals (first | assumption | wp_step))
   all_goals first | exact⟨_,rfl,hs⟩ | skip
  ·rw[if_pos (by decide)]
   refine wpAny_bind (wpAny_pure ?_)
   show wpAny _ _ (mkInt 1) _ _ _
   repeat (any_goals (first | assumption | wp_step))
   all_goals first | exact⟨_,rfl,hs⟩ | skip
end PySem
namespace L2
open PySem PySem.Spec PyProof.Rows PySem.W
section
variable {X:Cx}
theorem zgp:YF X (.type "int") (fun xs H Q=>∃b:Bool,xs=[.str (zk4 b)]/\Q (.int (b.toNat:Nat)) H):=by
 intro pins s σ H xs us Q I r h
 obtain⟨b,rfl,q⟩:=h
 obtain⟨u,rfl,t,rfl⟩:=vals1 r
 have m:Meets (Builtin.«int.__new__» ⟨[.type "int", .str (zk4 b) t],[]⟩) (Made.int ((b.toNat:Nat):Int)).spec:=Pj (zk4 b) (uU.chc b) _ t (by cases b<;>decide +kernel) rfl (by cases b;exact .inl ⟨rfl,rfl⟩;exact .inr ⟨rfl,rfl⟩)
 exact call_int_1 m (show(Made.int ((b.toNat:Nat):Int)).post _ s from ⟨rfl,⟨.int (b.toNat:Nat),H,I.tok _,⟨_,rfl⟩,q⟩⟩)
end
structure Tot (lt:Nat->Nat->Bool)(N:Nat):Prop where
 tr:∀{i j k},i<N->j<N->k<N->lt i j=true->lt j k=true->lt i k=true
 ne:∀{i j},i<N->j<N->i≠j->lt i j=false->lt j i=true
 as:∀{i j},i<N->j<N->lt i j=true->lt j i=false
def yV (κ:SortKind)(it:Array Keyed)(l:List Nat)(pend:Array (Nat×Nat×Nat))(g:Nat):SortSt:=SortSt.mk' κ (l.map (kas_item it)).toArray pend g none
abbrev Up (lt:Nat->Nat->Bool)(l:List Nat):Prop:=l.Pairwise fun a b=>lt a b=true
section
variable {prog:Program}{w:World}{A:Around}{E:Value->Shared->Prop}{κ:SortKind}{it:Array Keyed}{s:Shared}
variable {lt:Nat->Nat->Bool}{N:Nat}
theorem JV {l:List Nat}{pend:Array (Nat×Nat×Nat)}{g i j x y:Nat}{Q:Option Bool->SortSt->Shared->Prop}(hc:Mv prog w A κ it s lt N)(hi:l[i]?=some x)(hj:l[j]?=some y)(hx:x<N)(hy:y<N)
  (q:Q (some (lt x y)) (yV κ it l pend g) s):kasC (model prog w) A E (ltAt' i j) Q (yV κ it l pend g) s:=by
 rw[ltAt'_eq]
 refine kasC_bind (kasC_get ?_)
 exact kasC_bind (xQ (yq hi) (kasC_bind (xQ (yq hj) (zdv hc hx hy rfl q))))
theorem zmu {α σ:Type}{M:Model}{m:StateT σ Sem α}{Q Q':α->σ->Shared->Prop}{st:σ}{s:Shared}(h:kasC M A E m Q st s)(k:∀a st' s',Q a st' s'->Q' a st' s'):kasC M A E m Q' st s:=wpAny_mono h (fun r s' z=>k _ _ _ z) fun _ _ e=>e
theorem zjh {l:List Nat}{n x y:Nat}(T:Tot lt N)(hN:∀x∈l,x<N)(h:Up lt (l.take n))(h1:1<=n)(hy:l[n-1]?=some y)(hx:l[n]?=some x)(hxy:lt y x=true):Up lt (l.take (n+1)):=by
 rw[zZ hx]
 refine List.pairwise_append.mpr ⟨h,List.pairwise_singleton _ _,fun a ha b hb=>?_⟩
 rw[List.mem_singleton.mp hb]
 have e:l.take n=l.take (n-1)++[y]:=by
  have:=zZ hy
  rw[show n-1+1=n by omega] at this
  exact this
 rw[e] at ha h
 rcases List.mem_append.mp ha with z | z
 ·have:=(List.pairwise_append.mp h).2.2 a z y zrM
  exact T.tr (hN a (List.mem_of_mem_take z)) (hN y (zrx hy)) (hN x (zrx hx)) this hxy
 ·rw[List.mem_singleton.mp z];exact hxy
theorem zj9 {P S:List Nat}{pend:Array (Nat×Nat×Nat)}{g lo nrem:Nat}(T:Tot lt N)(hc:Mv prog w A κ it s lt N)(hP:P.length=lo)(hS:S.length=nrem)(hN:∀x∈S,x<N)(nd:S.Nodup) :
  ∀(f n:Nat) (ls:List Nat),ls.length=f->n+f=nrem->1<=n->Up lt (S.take n)->∀{R:Option (Option Nat)×Nat->SortSt->Shared->Prop} {body:Nat->Option (Option Nat)×Nat->StateT SortSt Sem (ForInStep (Option (Option Nat)×Nat))},
   (∀m,n<=m->m<=nrem->Up lt (S.take m)->(m<nrem->∃x y,S[m]?=some x/\S[m-1]?=some y/\lt x y=true)->R (none,m) (yV κ it (P++S) pend g) s) ->
   (∀z m (R':ForInStep (Option (Option Nat)×Nat)->SortSt->Shared->Prop),kasC (model prog w) A E (ltAt' (lo+m) (lo+m-1)) (fun r st' s'=>match r with | some true=>R' (.done (none,m)) st' s' | some false=>R' (.yield (none,m+1)) st' s' | none=>False) (yV κ it (P++S) pend g) s->kasC (model prog w) A E (body z (none,m)) R' (yV κ it (P++S) pend g) s) ->
   kasC (model prog w) A E (forIn ls (none,n) body) R (yV κ it (P++S) pend g) s:=by
 intro f
 induction f with
 | zero =>
  intro n ls hl hn h1 up R body hR hb
  cases ls with
  | nil=>exact kasC_nil (hR n (zrI _) (by omega) up fun h=>by omega)
  | cons _ _=>simp at hl
 | succ f ih =>
  intro n ls hl hn h1 up R body hR hb
  cases ls with
  | nil=>simp at hl
  | cons z ls =>
   have hl':ls.length=f:=by simpa using hl
   obtain⟨x,hx⟩:∃x,S[n]?=some x:=⟨_,zrt (by omega)⟩
   obtain⟨y,hy⟩:∃y,S[n-1]?=some y:=⟨_,zrt (by omega)⟩
   have hx':(P++S)[lo+n]?=some x:=by rw[List.getElem?_append_right (by omega),show lo+n-P.length=n by omega];exact hx
   have hy':(P++S)[lo+n-1]?=some y:=by rw[List.getElem?_append_right (by omega),show lo+n-1-P.length=n-1 by omega];exact hy
   have xN:=hN x (zrx hx)
   have yN:=hN y (zrx hy)
   refine kasC_cons (hb z n _ (JV hc hx' hy' xN yN ?_))
   cases e:lt x y with
   | true=>exact hR n (zrI _) (by omega) up fun _=>⟨x,y,hx,hy,e⟩
   | false =>
    have hne:x≠y:=fun z=>by
     subst z
     have:=(List.getElem?_inj (by omega:n<S.length) nd).mp (hx.trans hy.symm)
     omega
    refine ih (n+1) ls hl' (by omega) (by omega) (zjh T hN up h1 hy hx (T.ne xN yN hne e)) (fun m a b c d=>hR m (by omega) b c d) hb
theorem zhM {P B S:List Nat}{i j:Nat}(hi:i=P.length)(hj:j=P.length+B.length):(mirror ((P++B++S).map (kas_item it)).toArray i j ((j-i) / 2))=((P++B.reverse++S).map (kas_item it)).toArray:=by
 subst hi hj
 apply Array.ext'
 apply List.ext_getElem?
 intro k
 have e:=getElem?_mirror_all (xs:=((P++B++S).map (kas_item it)).toArray) (i:=P.length) (j:=P.length+B.length) (by simp) k
 rw[Array.getElem?_toList,e]
 simp only[List.getElem?_toArray,zru]
 have g:(P++B.reverse++S)[k]?=if P.length<=k/\k<P.length+B.length then (P++B++S)[P.length+(P.length+B.length)-1-k]? else (P++B++S)[k]?:=by
  by_cases h1:k<P.length
  ·rw[if_neg (by omega),List.append_assoc,List.append_assoc,zrZ h1,zrZ h1]
  ·by_cases h2:k<P.length+B.length
   ·have hr:B.reverse.length=B.length:=List.length_reverse
    rw[if_pos ⟨by omega,h2⟩,List.append_assoc,List.append_assoc,List.getElem?_append_right (l₁:=P) (by omega),List.getElem?_append_right (l₁:=P) (by omega),zrZ (l₁:=B.reverse) (by omega),zrZ (l₁:=B) (by omega),List.getElem?_reverse (by omega)]
    congr 1
    omega
   ·rw[if_neg (by omega),List.getElem?_append_right (l₁:=P++B.reverse) (by simp;omega),List.getElem?_append_right (l₁:=P++B) (by simp;omega)]
    simp
 rw[g]
 by_cases h3:P.length<=k/\k<P.length+B.length
 ·rw[if_pos h3,if_pos h3]
 ·rw[if_neg h3,if_neg h3]
theorem zbt {l:List Nat}{n x y:Nat}(T:Tot lt N)(hN:∀x∈l,x<N)(h:(l.take n).Pairwise fun a b=>lt b a=true)(h1:1<=n)(hy:l[n-1]?=some y)(hx:l[n]?=some x)(hxy:lt x y=true):(l.take (n+1)).Pairwise fun a b=>lt b a=true:=by
 rw[zZ hx]
 refine List.pairwise_append.mpr ⟨h,List.pairwise_singleton _ _,fun a ha b hb=>?_⟩
 rw[List.mem_singleton.mp hb]
 have e:l.take n=l.take (n-1)++[y]:=by
  have:=zZ hy
  rw[show n-1+1=n by omega] at this
  exact this
 rw[e] at ha h
 rcases List.mem_append.mp ha with z | z
 ·have:=(List.pairwise_append.mp h).2.2 a z y zrM
  exact T.tr (hN x (zrx hx)) (hN y (zrx hy)) (hN a (List.mem_of_mem_take z)) hxy this
 ·rw[List.mem_singleton.mp z];exact hxy
theorem zji {P S:List Nat}{pend:Array (Nat×Nat×Nat)}{g lo nrem:Nat}{Q:Option Nat->SortSt->Shared->Prop}(T:Tot lt N)(hc:Mv prog w A κ it s lt N)(hP:P.length=lo)(hS:S.length=nrem)(h1:1<=nrem)(hN:∀x∈S,x<N)(nd:S.Nodup)
  (q:∀n S',1<=n->n<=nrem->S'.Perm S->Up lt (S'.take n)->Q (some n) (yV κ it (P++S') pend g) s):kasC (model prog w) A E (countRun' lo nrem) Q (yV κ it (P++S) pend g) s:=by
 have up1:Up lt (S.take 1):=by
  cases S with
  | nil=>exact .nil
  | cons a l=>exact List.pairwise_singleton _ _
 have atS:∀{S:List Nat} {m x:Nat},S[m]?=some x->(P++S)[lo+m]?=some x:=fun {S m x} h=>by rw[List.getElem?_append_right (by omega),show lo+m-P.length=m by omega];exact h
 rw[countRun'_eq]
 refine kasC_bind (kasC_range ?_)
 refine zj9 T hc hP hS hN nd (nrem-1) 1 _ (by rw[List.length_range']) (by omega) (zrI _) up1 (fun m hm1 hm2 up ex=>?_) (fun z m R' h=>?_)
 ·dsimp only
  by_cases e1:(m==nrem)=true
  ·rw[if_pos e1]
   exact kasC_pure (q m S hm1 hm2 (List.Perm.refl _) up)
  ·rw[if_neg e1]
   have hlt:m<nrem:=Nat.lt_of_le_of_ne hm2 fun z=>e1 (by rw[z];exact beq_self_eq_true _)
   by_cases e2:m > 1
   ·rw[if_pos e2]
    obtain⟨x,hx⟩:∃x,S[0]?=some x:=⟨_,zrt (by omega)⟩
    obtain⟨y,hy⟩:∃y,S[m-1]?=some y:=⟨_,zrt (by omega)⟩
    have xN:=hN x (zrx hx)
    have yN:=hN y (zrx hy)
    have hxy:lt x y=true:=by
     have:=List.pairwise_iff_getElem.mp up 0 (m-1) (by rw[zrQ];omega) (by rw[zrQ];omega) (by omega)
     rw[List.getElem_take,List.getElem_take] at this
     have ex:S[0]'(by omega)=x:=by rw[zrt (by omega)] at hx;exact zrX hx
     have ey:S[m-1]'(by omega)=y:=by rw[zrt (by omega)] at hy;exact zrX hy
     rw[ex,ey] at this
     exact this
    have hy':=atS hy
    refine kasC_bind (JV hc (by have:=atS hx;rw[Nat.add_zero] at this;exact this) (show(P++S)[lo+m-1]?=some y by rw[show lo+m-1=lo+(m-1) by omega];exact hy') xN yN ?_)
    rw[hxy]
    exact kasC_pure (q m S hm1 hm2 (List.Perm.refl _) up)
   ·rw[if_neg e2]
    obtain rfl:m=1:=by omega
    obtain⟨x1,x0,hx1,hx0,zmv⟩:=ex hlt
    refine kasC_bind (kasC_lift (wpAny_rule ?_))
    refine kasC_bind (kasC_range ?_)
    have dn2:(S.take 2).Pairwise fun a b=>lt b a=true:=zbt T hN (n:=1) (by
     cases S with
     | nil=>exact .nil
     | cons a l=>exact List.pairwise_singleton _ _) (zrI _) hx0 hx1 zmv
    have desc:∀(f n:Nat) (ls:List Nat),ls.length=f->n+f=nrem->1<=n->((S.take n).Pairwise fun a b=>lt b a=true)->∀{R:Option (Option Nat)×Nat×Nat->SortSt->Shared->Prop} {body:Nat->Option (Option Nat)×Nat×Nat->StateT SortSt Sem (ForInStep (Option (Option Nat)×Nat×Nat))},
      (∀m,n<=m->m<=nrem->((S.take m).Pairwise fun a b=>lt b a=true)->R (none,m,0) (yV κ it (P++S) pend g) s) ->
      (∀z m x y (R':ForInStep (Option (Option Nat)×Nat×Nat)->SortSt->Shared->Prop),1<=m->m<nrem->S[m]?=some x->S[m-1]?=some y->(lt x y=true->R' (.yield (none,m+1,0)) (yV κ it (P++S) pend g) s)->(lt x y=false->R' (.done (none,m,0)) (yV κ it (P++S) pend g) s)->kasC (model prog w) A E (body z (none,m,0)) R' (yV κ it (P++S) pend g) s) ->
      kasC (model prog w) A E (forIn ls (none,n,0) body) R (yV κ it (P++S) pend g) s:=by
     intro f
     induction f with
     | zero =>
      intro n ls hl hn h1 dn R body hR hb
      cases ls with
      | nil=>exact kasC_nil (hR n (zrI _) (by omega) dn)
      | cons _ _=>simp at hl
     | succ f ih =>
      intro n ls hl hn h1 dn R body hR hb
      cases ls with
      | nil=>simp at hl
      | cons z ls =>
       have hl':ls.length=f:=by simpa using hl
       obtain⟨x,hx⟩:∃x,S[n]?=some x:=⟨_,zrt (by omega)⟩
       obtain⟨y,hy⟩:∃y,S[n-1]?=some y:=⟨_,zrt (by omega)⟩
       refine kasC_cons (hb z n x y _ h1 (by omega) hx hy (fun e=>?_) fun e=>?_)
       ·exact ih (n+1) ls hl' (by omega) (by omega) (zbt T hN dn h1 hy hx e) (fun m a b c=>hR m (by omega) b c) hb
       ·exact hR n (zrI _) (by omega) dn
    refine desc (nrem-2) 2 _ (by rw[List.length_range']) (by omega) (by decide) dn2 (fun m hm1 hm2 dn=>?_) (fun z m x y R' a1 a2 hx hy ht hf=>?_)
    ·dsimp only
     rw[if_neg (by decide)]
     have eS:P++S=P++S.take m++S.drop m:=by rw[List.append_assoc,List.take_append_drop]
     have lm:(S.take m).length=m:=by rw[zrQ];omega
     have em:=zhM (it:=it) (P:=P) (B:=S.take m) (S:=S.drop m) (i:=lo) (j:=lo+m) hP.symm (by rw[lm,hP])
     rw[reverseSlice'_eq]
     refine kasC_bind (kasC_modify ?_)
     have est:setArr (yV κ it (P++S) pend g) (mirror (arrOf (yV κ it (P++S) pend g)) lo (lo+m) ((lo+m-lo) / 2))=yV κ it (P++((S.take m).reverse++S.drop m)) pend g:=by
      show SortSt.mk' κ (mirror ((P++S).map (kas_item it)).toArray lo (lo+m) ((lo+m-lo) / 2)) pend g none=SortSt.mk' κ ((P++((S.take m).reverse++S.drop m)).map (kas_item it)).toArray pend g none
      rw[eS,em,List.append_assoc P]
     rw[est]
     have pS:((S.take m).reverse++S.drop m).Perm S:=by
      have:=(List.reverse_perm (S.take m)).append_right (S.drop m)
      rw[List.take_append_drop] at this
      exact this
     have hN':∀x∈(S.take m).reverse++S.drop m,x<N:=fun x hx=>hN x (pS.mem_iff.mp hx)
     have nd':((S.take m).reverse++S.drop m).Nodup:=pS.nodup_iff.mpr nd
     have up':Up lt (((S.take m).reverse++S.drop m).take m):=by
      rw[List.take_left' (by rw[List.length_reverse];exact lm)]
      exact List.pairwise_reverse.mpr dn
     refine kasC_bind (kasC_range ?_)
     refine zj9 (nrem:=nrem) T hc hP (by rw[pS.length_eq];exact hS) hN' nd' (nrem-m) m _ (by rw[List.length_range']) (by omega) (by omega) up' (fun m2 b1 b2 up2 _=>?_) (fun z m R' h=>?_)
     ·dsimp only
      exact kasC_pure (q m2 _ (by omega) b2 pS up2)
     ·refine kasC_bind (zmu h fun r st' s' hr=>?_)
      match r,hr with
      | some true,hr=>exact kasC_pure hr
      | some false,hr=>exact kasC_pure hr
    ·have xN:=hN x (zrx hx)
     have yN:=hN y (zrx hy)
     have hx':=atS hx
     have hy':(P++S)[lo+m-1]?=some y:=by rw[show lo+m-1=lo+(m-1) by omega];exact atS hy
     dsimp only
     refine kasC_bind (JV hc hx' hy' xN yN ?_)
     cases e:lt x y with
     | true =>
      dsimp only
      rw[if_pos rfl,if_neg (by decide)]
      exact kasC_pure (ht e)
     | false =>
      dsimp only
      rw[if_neg zrw]
      have hne:x≠y:=fun z=>by
       subst z
       have:=(List.getElem?_inj (by omega:m<S.length) nd).mp (hx.trans hy.symm)
       omega
      refine kasC_bind (JV hc hy' hx' yN xN ?_)
      rw[T.ne xN yN hne e]
      exact kasC_pure (hf e)
 ·refine kasC_bind (zmu h fun r st' s' hr=>?_)
  match r,hr with
  | some true,hr=>exact kasC_pure hr
  | some false,hr=>exact kasC_pure hr
theorem zmw {l:Nat->List Nat}{pend:Array (Nat×Nat×Nat)}{g lo n ok:Nat}{Q:Bool->SortSt->Shared->Prop}(hc:Mv prog w A κ it s lt N)(hn:max ok 1<=n)
  (hs:∀k,max ok 1<=k->k<n->∃(x:Nat) (gg:Nat->Nat),(l k)[lo+k]?=some x/\x<N/\(∀m,m<k->(l k)[lo+m]?=some (gg m)/\gg m<N) /\
   bubble (l k).toArray (lo+k) (lo+k-(lo+plc (fun m=>lt x (gg m)) k 0 k))=(l (k+1)).toArray)
  (q:Q true (yV κ it (l n) pend g) s):kasC (model prog w) A E (binarySort' lo n ok) Q (yV κ it (l (max ok 1)) pend g) s:=by
 rw[binarySort'_eq]
 refine kasC_bind (kasC_range ?_)
 generalize ha:max ok 1=a at hn hs
 have main:∀(f k:Nat),k+f=n->a<=k->∀{R:Option Bool×Unit->SortSt->Shared->Prop} {body:Nat->Option Bool×Unit->StateT SortSt Sem (ForInStep (Option Bool×Unit))},R (none,()) (yV κ it (l n) pend g) s ->
   (∀(k:Nat) (R':ForInStep (Option Bool×Unit)->SortSt->Shared->Prop),a<=k->k<n->R' (.yield (none,())) (yV κ it (l (k+1)) pend g) s->kasC (model prog w) A E (body k (none,())) R' (yV κ it (l k) pend g) s) ->
   kasC (model prog w) A E (forIn (List.range' k f) (none,()) body) R (yV κ it (l k) pend g) s:=by
  intro f
  induction f with
  | zero =>
   intro k hk _ R body hR _
   obtain rfl:k=n:=by omega
   exact kasC_nil hR
  | succ f ih =>
   intro k hk hak R body hR hb
   rw[List.range'_succ]
   exact kasC_cons (hb k _ hak (by omega) (ih (k+1) (by omega) (by omega) hR hb))
 refine main (n-a) a (by omega) (zrI _) (kasC_pure q) fun k R' hak hkn hR'=>?_
 obtain⟨x,gg,hx,hxN,hg,zn9⟩:=hs k hak hkn
 refine kasC_bind (kasC_range ?_)
 have place:∀(f u v:Nat) (ls:List Nat),ls.length=f->v<=k->v-u<=f->∀{R:Option Bool×Nat×Nat->SortSt->Shared->Prop} {body:Nat->Option Bool×Nat×Nat->StateT SortSt Sem (ForInStep (Option Bool×Nat×Nat))},
   (∀v',R (none,plc (fun m=>lt x (gg m)) f u v,v') (yV κ it (l k) pend g) s) ->
   (∀y u v (R':ForInStep (Option Bool×Nat×Nat)->SortSt->Shared->Prop),u >= v->R' (.done (none,u,v)) (yV κ it (l k) pend g) s->kasC (model prog w) A E (body y (none,u,v)) R' (yV κ it (l k) pend g) s) ->
   (∀y u v (R':ForInStep (Option Bool×Nat×Nat)->SortSt->Shared->Prop),u<v->v<=k->R' (.yield (if lt x (gg ((u+v) / 2))=true then (none,u,(u+v) / 2) else (none,(u+v) / 2+1,v))) (yV κ it (l k) pend g) s->kasC (model prog w) A E (body y (none,u,v)) R' (yV κ it (l k) pend g) s) ->
   kasC (model prog w) A E (forIn ls (none,u,v) body) R (yV κ it (l k) pend g) s:=by
  intro f
  induction f with
  | zero =>
   intro u v ls hl hv hf R body hR _ _
   cases ls with
   | nil=>exact kasC_nil (hR v)
   | cons _ _=>simp at hl
  | succ f ih =>
   intro u v ls hl hv hf R body hR b1 b2
   cases ls with
   | nil=>simp at hl
   | cons y ls =>
    have hl':ls.length=f:=by simpa using hl
    unfold plc at hR
    by_cases hge:u >= v
    ·rw[if_pos hge] at hR
     exact kasC_cons (b1 y u v _ hge (hR v))
    ·rw[if_neg hge] at hR
     refine kasC_cons (b2 y u v _ (by omega) hv ?_)
     cases hlt:lt x (gg ((u+v) / 2)) with
     | true =>
      simp only[hlt,if_true] at hR ⊢
      exact ih u ((u+v) / 2) ls hl' (by omega) (by omega) hR b1 b2
     | false =>
      simp only[hlt,Bool.false_eq_true,if_false] at hR ⊢
      exact ih ((u+v) / 2+1) v ls hl' hv (by omega) hR b1 b2
 refine place k 0 k _ (by rw[List.length_range'];omega) (zrI _) (by omega) (fun v'=>?_) (fun y u v R2 hge hR2=>?_) fun y u v R2 hlt hv hR2=>?_
 ·show kasC _ _ _ (do moveDown' (lo+k) (lo+plc (fun m=>lt x (gg m)) k 0 k);pure (ForInStep.yield (none,()))) _ _ _
  rw[moveDown'_eq]
  refine kasC_bind (kasC_modify (kasC_pure ?_))
  have e:setArr (yV κ it (l k) pend g) (bubble (arrOf (yV κ it (l k) pend g)) (lo+k) (lo+k-(lo+plc (fun m=>lt x (gg m)) k 0 k)))=yV κ it (l (k+1)) pend g:=by
   have e1:bubble ((l k).map (kas_item it)).toArray (lo+k) (lo+k-(lo+plc (fun m=>lt x (gg m)) k 0 k))=(bubble (l k).toArray (lo+k) (lo+k-(lo+plc (fun m=>lt x (gg m)) k 0 k))).map (kas_item it):=by
    rw[<-List.map_toArray]
    exact kas_swaps_map (kas_item it) (fun i=>lo+k-i) (fun i=>lo+k-i-1) _ _
   show SortSt.mk' κ (bubble ((l k).map (kas_item it)).toArray (lo+k) _) pend g none=SortSt.mk' κ ((l (k+1)).map (kas_item it)).toArray pend g none
   rw[e1,zn9,List.map_toArray]
  rw[e]
  exact hR'
 ·dsimp only
  rw[if_pos hge]
  exact kasC_pure hR2
 ·dsimp only
  rw[if_neg (by omega)]
  obtain⟨g1,g2⟩:=hg ((u+v) / 2) (by omega)
  refine kasC_bind (JV hc hx g1 hxN g2 ?_)
  cases hb:lt x (gg ((u+v) / 2)) with
  | true =>
   simp only[hb,if_true] at hR2 ⊢
   exact kasC_pure hR2
  | false =>
   simp only[hb,Bool.false_eq_true,if_false] at hR2 ⊢
   exact kasC_pure hR2
theorem JW {f:Nat->Bool}{k:Nat}(mono:∀m m',m<=m'->m'<k->f m=true->f m'=true):∀(n u v:Nat),v-u<=n->u<=v->v<=k->(∀m,m<u->f m=false)->(∀m,v<=m->m<k->f m=true) ->
  plc f n u v<=k/\(∀m,m<plc f n u v->f m=false)/\∀m,plc f n u v<=m->m<k->f m=true
 | 0,u,v,hn,huv,hv,h1,h2=>by
  obtain rfl:u=v:=by omega
  exact⟨hv,h1,h2⟩
 | n+1,u,v,hn,huv,hv,h1,h2=>by
  unfold plc
  by_cases hge:u >= v
  ·rw[if_pos hge]
   obtain rfl:u=v:=by omega
   exact⟨hv,h1,h2⟩
  ·rw[if_neg hge]
   by_cases hf:f ((u+v) / 2)=true
   ·rw[if_pos hf]
    exact JW mono n u _ (by omega) (by omega) (by omega) h1 fun m a b=>mono _ m a b hf
   ·rw[if_neg hf]
    refine JW mono n _ v (by omega) (by omega) hv (fun m a=>?_) h2
    cases e:f m with
    | false=>rfl
    | true=>exact absurd (mono m ((u+v) / 2) (by omega) (by omega) e) hf
def zgr (lt:Nat->Nat->Bool)(S:List Nat)(k:Nat):List Nat:=S.take (plc (fun m=>lt (S.getD k 0) (S.getD m 0)) k 0 k)++S.getD k 0::(S.take k).drop (plc (fun m=>lt (S.getD k 0) (S.getD m 0)) k 0 k)++S.drop (k+1)
theorem zdw {S:List Nat}{k:Nat}(T:Tot lt N)(hN:∀x∈S,x<N)(nd:S.Nodup)(hk:k<S.length)(up:Up lt (S.take k)) :
  (zgr lt S k).Perm S/\Up lt ((zgr lt S k).take (k+1))/\plc (fun m=>lt (S.getD k 0) (S.getD m 0)) k 0 k<=k:=by
 have gd:∀m,m<S.length->S[m]?=some (S.getD m 0):=fun m hm=>by rw[zrF,zrt hm];rfl
 have hx:=gd k hk
 have xN:=hN _ (zrx hx)
 have srt:∀m m',m<m'->m'<k->lt (S.getD m 0) (S.getD m' 0)=true:=fun m m' a b=>by
  have:=List.pairwise_iff_getElem.mp up m m' (by rw[zrQ];omega) (by rw[zrQ];omega) a
  rw[List.getElem_take,List.getElem_take] at this
  have e1:=gd m (by omega)
  have e2:=gd m' (by omega)
  rw[zrt (by omega)] at e1 e2
  rw[zrX e1,zrX e2] at this
  exact this
 obtain⟨p1,p2,p3⟩:=JW (f:=fun m=>lt (S.getD k 0) (S.getD m 0)) (k:=k) (fun m m' a b h=>by
  rcases Nat.lt_or_eq_of_le a with z | z
  ·exact T.tr xN (hN _ (zrx (gd m (by omega)))) (hN _ (zrx (gd m' (by omega)))) h (srt m m' z b)
  ·rw[<-z];exact h) k 0 k (by omega) (by omega) (zrI _) (fun m h=>by omega) (fun m a b=>by omega)
 unfold zgr
 generalize plc (fun m=>lt (S.getD k 0) (S.getD m 0)) k 0 k=p at p1 p2 p3
 have eS:S=S.take p++((S.take k).drop p++(S.getD k 0::S.drop (k+1))):=by
  have h1:S.take k++(S.getD k 0::S.drop (k+1))=S:=by
   have e:=List.take_append_drop k S
   rw[List.drop_eq_getElem_cons hk] at e
   have e2:=hx
   rw[zrt hk] at e2
   rw[<-zrX e2]
   exact e
  have h2:S.take p++(S.take k).drop p=S.take k:=by
   have:=List.take_append_drop p (S.take k)
   rw[List.take_take,Nat.min_eq_left p1] at this
   exact this
  rw[<-List.append_assoc,h2,h1]
 have lp:(S.take p).length=p:=by rw[zrQ];omega
 have ld:((S.take k).drop p).length=k-p:=by rw[List.length_drop,zrQ];omega
 refine⟨?_,?_,p1⟩
 ·conv=>rhs;rw[eS]
  rw[List.append_assoc]
  refine List.Perm.append_left _ ?_
  have:=(List.perm_middle (a:=S.getD k 0) (l₁:=(S.take k).drop p) (l₂:=S.drop (k+1))).symm
  simpa using this
 ·have e:(S.take p++S.getD k 0::(S.take k).drop p++S.drop (k+1)).take (k+1)=S.take p++S.getD k 0::(S.take k).drop p:=List.take_left' (by rw[zrA,zrE,lp,ld];omega)
  rw[e]
  have mA:∀a∈S.take p,lt a (S.getD k 0)=true:=fun a ha=>by
   obtain⟨m,hm,rfl⟩:=zr9 ha
   rw[lp] at hm
   rw[List.getElem_take]
   have e1:=gd m (by omega)
   rw[zrt (by omega)] at e1
   have ev:=zrX e1
   have hne:S.getD k 0≠S.getD m 0:=fun z=>by
    have:=(List.getElem?_inj hk nd).mp ((gd k hk).trans ((congrArg some z).trans (gd m (by omega)).symm))
    omega
   have yN:=hN _ (zrx (gd m (by omega)))
   rw[ev]
   exact T.ne xN yN hne (p2 m hm)
  have mB:∀b∈(S.take k).drop p,lt (S.getD k 0) b=true:=fun b hb=>by
   obtain⟨m,hm,rfl⟩:=zr9 hb
   rw[ld] at hm
   rw[List.getElem_drop,List.getElem_take]
   have e1:=gd (p+m) (by omega)
   rw[zrt (by omega)] at e1
   rw[zrX e1]
   exact p3 (p+m) (by omega) (by omega)
  have up':Up lt (S.take p++(S.take k).drop p):=by
   have:=List.take_append_drop p (S.take k)
   rw[List.take_take,Nat.min_eq_left p1] at this
   rw[this]
   exact up
  obtain⟨u1,u2,u3⟩:=List.pairwise_append.mp up'
  refine List.pairwise_append.mpr ⟨u1,List.pairwise_cons.mpr ⟨mB,u2⟩,fun a ha b hb=>?_⟩
  rcases List.mem_cons.mp hb with z | z
  ·rw[z];exact mA a ha
  ·exact u3 a ha b z
def insI (lt:Nat->Nat->Bool)(S:List Nat)(a:Nat):Nat->List Nat
 | 0=>S
 | j+1=>zgr lt (insI lt S a j) (a+j)
theorem zk5 {P S:List Nat}{pend:Array (Nat×Nat×Nat)}{g lo n ok:Nat}{Q:Bool->SortSt->Shared->Prop}(T:Tot lt N)(hc:Mv prog w A κ it s lt N)(hP:P.length=lo)(hok:1<=ok)(hon:ok<=n)(hn:n<=S.length)(hN:∀x∈S,x<N)(nd:S.Nodup)(up:Up lt (S.take ok))
  (q:∀S',S'.Perm S->Up lt (S'.take n)->Q true (yV κ it (P++S') pend g) s):kasC (model prog w) A E (binarySort' lo n ok) Q (yV κ it (P++S) pend g) s:=by
 have em:max ok 1=ok:=by omega
 have inv:∀j,ok+j<=n->(insI lt S ok j).Perm S/\Up lt ((insI lt S ok j).take (ok+j)):=fun j=>by
  induction j with
  | zero=>exact fun _=>⟨List.Perm.refl _,up⟩
  | succ j ih =>
   intro h
   obtain⟨a1,a2⟩:=ih (by omega)
   obtain⟨b1,b2,_⟩:=zdw T (fun x hx=>hN x (a1.mem_iff.mp hx)) (a1.nodup_iff.mpr nd) (k:=ok+j) (by rw[a1.length_eq];omega) a2
   exact⟨b1.trans a1,b2⟩
 have e0:P++S=(fun k=>P++insI lt S ok (k-ok)) (max ok 1):=by
  show P++S=P++insI lt S ok (max ok 1-ok)
  rw[em,Nat.sub_self]
  rfl
 rw[e0]
 refine zmw (l:=fun k=>P++insI lt S ok (k-ok)) hc (by omega) (fun k hk1 hk2=>?_) ?_
 ·obtain⟨j,rfl⟩:∃j,k=ok+j:=⟨k-ok,by omega⟩
  obtain⟨a1,a2⟩:=inv j (by omega)
  have la:=a1.length_eq
  have hNa:∀x∈insI lt S ok j,x<N:=fun x hx=>hN x (a1.mem_iff.mp hx)
  have nda:=a1.nodup_iff.mpr nd
  obtain⟨b1,b2,b3⟩:=zdw T hNa nda (k:=ok+j) (by rw[la];omega) a2
  have e1:ok+j-ok=j:=by omega
  have e2:ok+j+1-ok=j+1:=by omega
  rw[e1,e2]
  have gd:∀m,m<(insI lt S ok j).length->(insI lt S ok j)[m]?=some ((insI lt S ok j).getD m 0):=fun m hm=>by rw[zrF,zrt hm];rfl
  have atA:∀m,m<(insI lt S ok j).length->(P++insI lt S ok j)[lo+m]?=some ((insI lt S ok j).getD m 0):=fun m hm=>by rw[List.getElem?_append_right (by omega),show lo+m-P.length=m by omega];exact gd m hm
  refine⟨(insI lt S ok j).getD (ok+j) 0,fun m=>(insI lt S ok j).getD m 0,atA _ (by omega),hNa _ (zrx (gd _ (by omega))),fun m hm=>⟨atA m (by omega),hNa _ (zrx (gd m (by omega)))⟩,?_⟩
  show bubble (P++insI lt S ok j).toArray (lo+(ok+j)) _=(P++zgr lt (insI lt S ok j) (ok+j)).toArray
  unfold zgr
  generalize plc (fun m=>lt ((insI lt S ok j).getD (ok+j) 0) ((insI lt S ok j).getD m 0)) (ok+j) 0 (ok+j)=p at b3
  generalize insI lt S ok j=B at *
  have hk:ok+j<B.length:=by omega
  have eB:B=B.take p++(B.take (ok+j)).drop p++B.getD (ok+j) 0::B.drop (ok+j+1):=by
   have h1:B.take (ok+j)++(B.getD (ok+j) 0::B.drop (ok+j+1))=B:=by
    have e:=List.take_append_drop (ok+j) B
    rw[List.drop_eq_getElem_cons hk] at e
    have e2:=gd (ok+j) hk
    rw[zrt hk] at e2
    rw[<-zrX e2]
    exact e
   have h2:B.take p++(B.take (ok+j)).drop p=B.take (ok+j):=by
    have:=List.take_append_drop p (B.take (ok+j))
    rw[List.take_take,Nat.min_eq_left b3] at this
    exact this
   rw[h2,h1]
  have bb:=zhH P (B.take p) ((B.take (ok+j)).drop p) (B.drop (ok+j+1)) (B.getD (ok+j) 0)
  have lp:(B.take p).length=p:=by rw[zrQ];omega
  have ld:((B.take (ok+j)).drop p).length=ok+j-p:=by rw[List.length_drop,zrQ];omega
  rw[lp,ld,show P.length+p+(ok+j-p)=lo+(ok+j) by omega] at bb
  rw[show lo+(ok+j)-(lo+p)=ok+j-p by omega]
  conv=>lhs;rw[eB]
  rw[<-List.append_assoc,<-List.append_assoc,bb]
  simp
 ·obtain⟨a1,a2⟩:=inv (n-ok) (by omega)
  rw[show ok+(n-ok)=n by omega] at a2
  exact q _ a1 a2
theorem zdx {left:Bool}{x yv:Nat}{arr:Array Keyed}{i:Nat}{st:SortSt}{Q:Option Bool->SortSt->Shared->Prop}(T:Tot lt N)(hc:Mv prog w A κ it s lt N)(hk:kindOf st=κ)(hx:x<N)(hy:yv<N)(hne:yv≠x)(h:arr[i]?=some (kas_item it yv))(q:Q (some (lt yv x)) st s) :
  kasC (model prog w) A E (do
   let z <-elem' arr i
   if left=true then lt' z (kas_item it x) else do
    let r <-lt' (kas_item it x) z
    pure (Option.map (fun b=>!b) r)) Q st s:=by
 refine kasC_bind (xQ h ?_)
 cases left with
 | true =>
  rw[if_pos rfl]
  exact zdv hc hy hx hk q
 | false =>
  rw[if_neg zrw]
  refine kasC_bind (zdv hc hx hy hk (kasC_pure ?_))
  have e:(!lt x yv)=lt yv x:=by
   cases e:lt x yv with
   | true=>rw[T.as hx hy e];rfl
   | false=>rw[T.ne hx hy (Ne.symm hne) e];rfl
  show Q (some (!lt x yv)) st s
  rw[e]
  exact q
theorem Kd {left:Bool}{l:List Nat}{y:Nat->Nat}{x base n hint:Nat}{st:SortSt}{Q:Option Nat->SortSt->Shared->Prop}(T:Tot lt N)(hc:Mv prog w A κ it s lt N)(hk:kindOf st=κ)(hx:x<N)(hl:∀i,i<n->l[base+i]?=some (y i))(hN:∀i,i<n->y i<N)(hne:∀i,i<n->y i≠x)(up:∀i j,i<j->j<n->lt (y i) (y j)=true)(hh:hint<n)
  (q:∀k,k<=n->(∀i,i<k->lt (y i) x=true)->(∀i,k<=i->i<n->lt (y i) x=false)->Q (some k) st s) :
  kasC (model prog w) A E (gal' left (kas_item it x) (l.map (kas_item it)).toArray base n hint) Q st s:=by
 have mono:∀i j,i<=j->j<n->lt (y j) x=true->lt (y i) x=true:=fun i j a b h=>by
  rcases Nat.lt_or_eq_of_le a with z | z
  ·exact T.tr (hN i (by omega)) (hN j b) hx (up i j z b) h
  ·rw[z];exact h
 have anti:∀i j,i<=j->j<n->lt (y i) x=false->lt (y j) x=false:=fun i j a b h=>by
  cases e:lt (y j) x with
  | false=>rfl
  | true=>rw[mono i j a b e] at h;cases h
 have fin:∀(f lo hi:Nat) (ls:List Nat),ls.length=f->lo<=hi->hi<=n->hi-lo<=f->(∀i,i<lo->lt (y i) x=true)->(∀i,hi<=i->i<n->lt (y i) x=false) ->
   ∀{R:Option (Option Nat)×Nat×Nat->SortSt->Shared->Prop} {body:Nat->Option (Option Nat)×Nat×Nat->StateT SortSt Sem (ForInStep (Option (Option Nat)×Nat×Nat))},
   (∀k lo',k<=n->(∀i,i<k->lt (y i) x=true)->(∀i,k<=i->i<n->lt (y i) x=false)->R (none,lo',k) st s) ->
   (∀z u v (R':ForInStep (Option (Option Nat)×Nat×Nat)->SortSt->Shared->Prop),u >= v->R' (.done (none,u,v)) st s->kasC (model prog w) A E (body z (none,u,v)) R' st s) ->
   (∀z u v (R':ForInStep (Option (Option Nat)×Nat×Nat)->SortSt->Shared->Prop),u<v->v<=n->R' (.yield (if lt (y (u+(v-u) / 2)) x=true then (none,u+(v-u) / 2+1,v) else (none,u,u+(v-u) / 2))) st s->kasC (model prog w) A E (body z (none,u,v)) R' st s) ->
   kasC (model prog w) A E (forIn ls (none,lo,hi) body) R st s:=by
  intro f
  induction f with
  | zero =>
   intro lo hi ls hl hlo hhi hf h1 h2 R body hR b1 b2
   obtain rfl:lo=hi:=by omega
   cases ls with
   | nil=>exact kasC_nil (hR lo lo hhi h1 h2)
   | cons _ _=>simp at hl
  | succ f ih =>
   intro lo hi ls hl hlo hhi hf h1 h2 R body hR b1 b2
   cases ls with
   | nil=>simp at hl
   | cons z ls =>
    have hl':ls.length=f:=by simpa using hl
    by_cases hge:lo >= hi
    ·obtain rfl:lo=hi:=by omega
     exact kasC_cons (b1 z lo lo _ (zrI _) (hR lo lo hhi h1 h2))
    ·refine kasC_cons (b2 z lo hi _ (by omega) hhi ?_)
     cases e:lt (y (lo+(hi-lo) / 2)) x with
     | true =>
      rw[if_pos rfl]
      exact ih (lo+(hi-lo) / 2+1) hi ls hl' (by omega) hhi (by omega) (fun i hi'=>mono i _ (by omega) (by omega) e) h2 hR b1 b2
     | false =>
      rw[if_neg zrw]
      exact ih lo (lo+(hi-lo) / 2) ls hl' (by omega) (by omega) (by omega) h1 (fun i a b=>anti _ i a b e) hR b1 b2
 refine kasC_bind ?_
 refine zdx T hc hk hx (hN hint hh) (hne hint hh) (yq (hl hint hh)) ?_
 cases eh:lt (y hint) x with
 | true =>
  dsimp only
  rw[if_pos rfl]
  refine kasC_bind (kasC_range ?_)
  have ex:∀(f last ofs:Nat) (ls:List Nat),ls.length=f->last<ofs->hint+last<n->n+1<=ofs+f->lt (y (hint+last)) x=true ->
    ∀{R:Option (Option Nat)×Nat×Nat->SortSt->Shared->Prop} {body:Nat->Option (Option Nat)×Nat×Nat->StateT SortSt Sem (ForInStep (Option (Option Nat)×Nat×Nat))},
    (∀last ofs,last<ofs->hint+last<n->lt (y (hint+last)) x=true->(ofs<n-hint->lt (y (hint+ofs)) x=false)->R (none,last,ofs) st s) ->
    (∀z last ofs (R':ForInStep (Option (Option Nat)×Nat×Nat)->SortSt->Shared->Prop),ofs >= n-hint->R' (.done (none,last,ofs)) st s->kasC (model prog w) A E (body z (none,last,ofs)) R' st s) ->
    (∀z last ofs (R':ForInStep (Option (Option Nat)×Nat×Nat)->SortSt->Shared->Prop),ofs<n-hint->R' (if lt (y (hint+ofs)) x=true then .yield (none,ofs,2*ofs+1) else .done (none,last,ofs)) st s->kasC (model prog w) A E (body z (none,last,ofs)) R' st s) ->
    kasC (model prog w) A E (forIn ls (none,last,ofs) body) R st s:=by
   intro f
   induction f with
   | zero =>
    intro last ofs ls hl h1 h2 h3 h4 R body hR b1 b2
    cases ls with
    | nil=>exact kasC_nil (hR last ofs h1 h2 h4 fun z=>by omega)
    | cons _ _=>simp at hl
   | succ f ih =>
    intro last ofs ls hl h1 h2 h3 h4 R body hR b1 b2
    cases ls with
    | nil=>simp at hl
    | cons z ls =>
     have hl':ls.length=f:=by simpa using hl
     by_cases hge:ofs >= n-hint
     ·exact kasC_cons (b1 z last ofs _ hge (hR last ofs h1 h2 h4 fun z=>by omega))
     ·refine kasC_cons (b2 z last ofs _ (by omega) ?_)
      cases e:lt (y (hint+ofs)) x with
      | true =>
       rw[if_pos rfl]
       exact ih ofs (2*ofs+1) ls hl' (by omega) (by omega) (by omega) e hR b1 b2
      | false =>
       rw[if_neg zrw]
       exact hR last ofs h1 h2 h4 fun _=>e
  refine ex n 0 1 _ (by rw[List.length_range'];omega) (by decide) (by omega) (by omega) eh (fun last ofs h1 h2 h3 h4=>?_) (fun z last ofs R' hge hR'=>?_) (fun z last ofs R' hlt hR'=>?_)
  ·dsimp only
   refine kasC_bind (kasC_range ?_)
   refine fin n _ _ _ (by rw[List.length_range'];omega) (by omega) (by omega) (by omega) ?_ ?_ (fun k lo' k1 k2 k3=>?_) (fun z u v R' hge hR'=>?_) (fun z u v R' hlt hv hR'=>?_)
   ·exact fun i hi=>mono i (hint+last) (by omega) h2 h3
   ·intro i a b
    by_cases z:ofs<n-hint
    ·exact anti (hint+ofs) i (by omega) b (h4 z)
    ·omega
   ·dsimp only
    exact kasC_pure (q k k1 k2 k3)
   ·dsimp only
    rw[if_pos hge]
    exact kasC_pure hR'
   ·dsimp only
    rw[if_neg (by omega)]
    refine kasC_bind (zdx T hc hk hx (hN _ (by omega)) (hne _ (by omega)) (yq (hl _ (by omega))) ?_)
    cases e:lt (y (u+(v-u) / 2)) x with
    | true =>
     rw[e,if_pos rfl] at hR'
     dsimp only
     rw[if_pos rfl]
     exact kasC_pure hR'
    | false =>
     rw[e,if_neg zrw] at hR'
     dsimp only
     rw[if_neg zrw]
     exact kasC_pure hR'
  ·dsimp only
   rw[if_pos hge]
   exact kasC_pure hR'
  ·dsimp only
   rw[if_neg (by omega)]
   refine kasC_bind (zdx T hc hk hx (hN _ (by omega)) (hne _ (by omega)) (yq (hl _ (by omega))) ?_)
   cases e:lt (y (hint+ofs)) x with
   | true =>
    rw[e,if_pos rfl] at hR'
    dsimp only
    rw[if_neg (by decide)]
    exact kasC_pure hR'
   | false =>
    rw[e,if_neg zrw] at hR'
    dsimp only
    rw[if_pos (by decide)]
    exact kasC_pure hR'
 | false =>
  dsimp only
  rw[if_neg zrw]
  refine kasC_bind (kasC_range ?_)
  have ex:∀(f last ofs:Nat) (ls:List Nat),ls.length=f->last<ofs->last<=hint->n+1<=ofs+f->lt (y (hint-last)) x=false ->
    ∀{R:Option (Option Nat)×Nat×Nat->SortSt->Shared->Prop} {body:Nat->Option (Option Nat)×Nat×Nat->StateT SortSt Sem (ForInStep (Option (Option Nat)×Nat×Nat))},
    (∀last ofs,last<ofs->last<=hint->lt (y (hint-last)) x=false->(ofs<hint+1->lt (y (hint-ofs)) x=true)->R (none,last,ofs) st s) ->
    (∀z last ofs (R':ForInStep (Option (Option Nat)×Nat×Nat)->SortSt->Shared->Prop),ofs >= hint+1->R' (.done (none,last,ofs)) st s->kasC (model prog w) A E (body z (none,last,ofs)) R' st s) ->
    (∀z last ofs (R':ForInStep (Option (Option Nat)×Nat×Nat)->SortSt->Shared->Prop),ofs<hint+1->R' (if lt (y (hint-ofs)) x=true then .done (none,last,ofs) else .yield (none,ofs,2*ofs+1)) st s->kasC (model prog w) A E (body z (none,last,ofs)) R' st s) ->
    kasC (model prog w) A E (forIn ls (none,last,ofs) body) R st s:=by
   intro f
   induction f with
   | zero =>
    intro last ofs ls hl h1 h2 h3 h4 R body hR b1 b2
    cases ls with
    | nil=>exact kasC_nil (hR last ofs h1 h2 h4 fun z=>by omega)
    | cons _ _=>simp at hl
   | succ f ih =>
    intro last ofs ls hl h1 h2 h3 h4 R body hR b1 b2
    cases ls with
    | nil=>simp at hl
    | cons z ls =>
     have hl':ls.length=f:=by simpa using hl
     by_cases hge:ofs >= hint+1
     ·exact kasC_cons (b1 z last ofs _ hge (hR last ofs h1 h2 h4 fun z=>by omega))
     ·refine kasC_cons (b2 z last ofs _ (by omega) ?_)
      cases e:lt (y (hint-ofs)) x with
      | false =>
       rw[if_neg zrw]
       exact ih ofs (2*ofs+1) ls hl' (by omega) (by omega) (by omega) e hR b1 b2
      | true =>
       rw[if_pos rfl]
       exact hR last ofs h1 h2 h4 fun _=>e
  refine ex n 0 1 _ (by rw[List.length_range'];omega) (by decide) (by omega) (by omega) eh (fun last ofs h1 h2 h3 h4=>?_) (fun z last ofs R' hge hR'=>?_) (fun z last ofs R' hlt hR'=>?_)
  ·dsimp only
   refine kasC_bind (kasC_range ?_)
   refine fin n _ _ _ (by rw[List.length_range'];omega) (by omega) (by omega) (by omega) ?_ ?_ (fun k lo' k1 k2 k3=>?_) (fun z u v R' hge hR'=>?_) (fun z u v R' hlt hv hR'=>?_)
   ·intro i hi
    by_cases z:ofs<hint+1
    ·exact mono i (hint-ofs) (by omega) (by omega) (h4 z)
    ·omega
   ·exact fun i a b=>anti (hint-last) i a b h3
   ·dsimp only
    exact kasC_pure (q k k1 k2 k3)
   ·dsimp only
    rw[if_pos hge]
    exact kasC_pure hR'
   ·dsimp only
    rw[if_neg (by omega)]
    refine kasC_bind (zdx T hc hk hx (hN _ (by omega)) (hne _ (by omega)) (yq (hl _ (by omega))) ?_)
    cases e:lt (y (u+(v-u) / 2)) x with
    | true =>
     rw[e,if_pos rfl] at hR'
     dsimp only
     rw[if_pos rfl]
     exact kasC_pure hR'
    | false =>
     rw[e,if_neg zrw] at hR'
     dsimp only
     rw[if_neg zrw]
     exact kasC_pure hR'
  ·dsimp only
   rw[if_pos hge]
   exact kasC_pure hR'
  ·dsimp only
   rw[if_neg (by omega)]
   refine kasC_bind (zdx T hc hk hx (hN _ (by omega)) (hne _ (by omega)) (yq (hl _ (by omega))) ?_)
   cases e:lt (y (hint-ofs)) x with
   | true =>
    rw[e,if_pos rfl] at hR'
    dsimp only
    rw[if_pos rfl]
    exact kasC_pure hR'
   | false =>
    rw[e,if_neg zrw] at hR'
    dsimp only
    rw[if_neg zrw]
    exact kasC_pure hR'
end
section
variable {lt:Nat->Nat->Bool}{N:Nat}
structure MI (lt:Nat->Nat->Bool)(X Y O:List Nat)(ia ib:Nat):Prop where
 pm:(O++X.drop ia++Y.drop ib).Perm (X++Y)
 up:Up lt O
 lo:∀o∈O,∀r∈X.drop ia++Y.drop ib,lt o r=true
structure MG (lt:Nat->Nat->Bool)(N:Nat)(X Y:List Nat):Prop where
 T:Tot lt N
 ux:Up lt X
 uy:Up lt Y
 nd:(X++Y).Nodup
 hN:∀z∈X++Y,z<N
variable {X Y O:List Nat}{ia ib:Nat}
theorem MG.xN (G:MG lt N X Y){i x:Nat}(h:X[i]?=some x):x<N:=G.hN x (List.mem_append_left _ (zrx h))
theorem MG.yN (G:MG lt N X Y){i y:Nat}(h:Y[i]?=some y):y<N:=G.hN y (zrJ _ (zrx h))
theorem MG.ne (G:MG lt N X Y){i j x y:Nat}(h:X[i]?=some x)(k:Y[j]?=some y):x≠y:=fun e=>by
 subst e
 exact(List.nodup_append.mp G.nd).2.2 x (zrx h) x (zrx k) rfl
theorem Zq {l:List Nat}(u:Up lt l){i j x y:Nat}(hx:l[i]?=some x)(hy:l[j]?=some y)(h:i<j):lt x y=true:=by
 have hj:=(zrv.mp hy).1
 have:=List.pairwise_iff_getElem.mp u i j (by omega) hj h
 rw[zrt (by omega)] at hx
 rw[zrt hj] at hy
 rw[zrX hx,zrX hy] at this
 exact this
theorem zcd {l:List Nat}{i x:Nat}(h:l[i]?=some x):l.drop i=x::l.drop (i+1):=by
 have hi:=(zrv.mp h).1
 rw[List.drop_eq_getElem_cons hi]
 rw[zrt hi] at h
 rw[zrX h]
theorem tZ {l:List Nat}{i z:Nat}(h:z∈l.drop i):∃j,i<=j/\l[j]?=some z:=by
 obtain⟨m,hm,e⟩:=zr9 h
 refine⟨i+m,by omega,?_⟩
 rw[List.getElem_drop] at e
 rw[List.length_drop] at hm
 rw[zrt (by omega),e]
theorem MG.below (G:MG lt N X Y){l:List Nat}(hl:∀z∈l,z<N)(u:Up lt l){i x z:Nat}(hx:x<N)(hi:∀w,l[i]?=some w->lt x w=true)(hz:z∈l.drop i):lt x z=true:=by
 obtain⟨j,hj,e⟩:=tZ hz
 rcases Nat.lt_or_eq_of_le hj with q | q
 ·obtain⟨w,hw⟩:∃w,l[i]?=some w:=⟨_,zrt (by have:=(zrv.mp e).1;omega)⟩
  exact G.T.tr hx (hl w (zrx hw)) (hl z (zrx e)) (hi w hw) (Zq u hw e q)
 ·rw[q] at hi
  exact hi z e
theorem MI.start:MI lt X Y [] 0 0:=⟨List.Perm.refl _,.nil,fun o h=>by cases h⟩
theorem zfL (u:Up lt O){x:Nat}(h:∀o∈O,lt o x=true):Up lt (O++[x]):=List.pairwise_append.mpr ⟨u,List.pairwise_singleton _ _,fun a ha b hb=>by rw[List.mem_singleton.mp hb];exact h a ha⟩
theorem MI.X4 (G:MG lt N X Y)(h:MI lt X Y O ia ib){x:Nat}(hx:X[ia]?=some x)(hy:∀y,Y[ib]?=some y->lt x y=true):MI lt X Y (O++[x]) (ia+1) ib:=by
 have ed:=zcd hx
 have hxN:=G.xN hx
 refine⟨?_,zfL h.up fun o ho=>h.lo o ho x (List.mem_append_left _ (by rw[ed];exact zrM)),fun o ho r hr=>?_⟩
 ·have:=h.pm
  rw[ed] at this
  simpa using this
 ·rcases List.mem_append.mp ho with z | z
  ·refine h.lo o z r ?_
   rcases List.mem_append.mp hr with q | q
   ·exact List.mem_append_left _ (by rw[ed];exact zrD _ q)
   ·exact zrJ _ q
  ·rw[List.mem_singleton.mp z]
   rcases List.mem_append.mp hr with q | q
   ·obtain⟨j,hj,e⟩:=tZ q
    exact Zq G.ux hx e (by omega)
   ·exact G.below (fun z hz=>G.hN z (zrJ _ hz)) G.uy hxN hy q
theorem MI.Ro (G:MG lt N X Y)(h:MI lt X Y O ia ib){y:Nat}(hy:Y[ib]?=some y)(hx:∀x,X[ia]?=some x->lt y x=true):MI lt X Y (O++[y]) ia (ib+1):=by
 have ed:=zcd hy
 have hyN:=G.yN hy
 refine⟨?_,zfL h.up fun o ho=>h.lo o ho y (zrJ _ (by rw[ed];exact zrM)),fun o ho r hr=>?_⟩
 ·have:=h.pm
  rw[ed] at this
  refine List.Perm.trans ?_ this
  have e:(O++X.drop ia++y::Y.drop (ib+1)).Perm (O++(y::(X.drop ia++Y.drop (ib+1)))):=by
   rw[List.append_assoc]
   exact List.Perm.append_left _ List.perm_middle
  refine List.Perm.trans ?_ e.symm
  rw[List.append_assoc,List.append_assoc]
  rfl
 ·rcases List.mem_append.mp ho with z | z
  ·refine h.lo o z r ?_
   rcases List.mem_append.mp hr with q | q
   ·exact List.mem_append_left _ q
   ·exact zrJ _ (by rw[ed];exact zrD _ q)
  ·rw[List.mem_singleton.mp z]
   rcases List.mem_append.mp hr with q | q
   ·exact G.below (fun z hz=>G.hN z (List.mem_append_left _ hz)) G.ux hyN hx q
   ·obtain⟨j,hj,e⟩:=tZ q
    exact Zq G.uy hy e (by omega)
theorem MI.zhN (G:MG lt N X Y)(h:MI lt X Y O ia ib){y:Nat}(hy:Y[ib]?=some y):∀k,ia+k<=X.length->(∀i x,i<k->X[ia+i]?=some x->lt x y=true)->MI lt X Y (O++(X.drop ia).take k) (ia+k) ib
 | 0,_,_=>by simpa using h
 | k+1,hk,hb=>by
  have ih:=MI.zhN G h hy k (by omega) fun i x a b=>hb i x (by omega) b
  obtain⟨x,hx⟩:∃x,X[ia+k]?=some x:=⟨_,zrt (by omega)⟩
  have:=ih.X4 G hx fun w hw=>by
   rw[hy] at hw
   cases hw
   exact hb k x (by omega) hx
  have e:(X.drop ia).take (k+1)=(X.drop ia).take k++[x]:=zZ (by rw[List.getElem?_drop];exact hx)
  rw[e,<-List.append_assoc]
  exact this
theorem MI.zeL (G:MG lt N X Y)(h:MI lt X Y O ia ib){x:Nat}(hx:X[ia]?=some x):∀k,ib+k<=Y.length->(∀i y,i<k->Y[ib+i]?=some y->lt y x=true)->MI lt X Y (O++(Y.drop ib).take k) ia (ib+k)
 | 0,_,_=>by simpa using h
 | k+1,hk,hb=>by
  have ih:=MI.zeL G h hx k (by omega) fun i x a b=>hb i x (by omega) b
  obtain⟨y,hy⟩:∃y,Y[ib+k]?=some y:=⟨_,zrt (by omega)⟩
  have:=ih.Ro G hy fun w hw=>by
   rw[hx] at hw
   cases hw
   exact hb k y (by omega) hy
  have e:(Y.drop ib).take (k+1)=(Y.drop ib).take k++[y]:=zZ (by rw[List.getElem?_drop];exact hy)
  rw[e,<-List.append_assoc]
  exact this
def U9 (lt:Nat->Nat->Bool)(it:Array Keyed)(X Y:List Nat)(arr:Array Keyed):Prop:=∃M:List Nat,arr=(M.map (kas_item it)).toArray/\M.Perm (X++Y)/\Up lt M
theorem Pk {l:List Nat}(u:Up lt l)(i:Nat):Up lt (l.drop i):=u.sublist (List.drop_sublist _ _)
theorem MI.zce (G:MG lt N X Y)(h:MI lt X Y O ia ib)(e:Y.length<=ib){it:Array Keyed}:U9 lt it X Y ((O++X.drop ia++Y.drop ib).map (kas_item it)).toArray:=by
 refine⟨_,rfl,h.pm,?_⟩
 rw[List.drop_eq_nil_of_le e,List.append_nil]
 exact List.pairwise_append.mpr ⟨h.up,Pk G.ux _,fun a ha b hb=>h.lo a ha b (List.mem_append_left _ hb)⟩
theorem MI.zcf (G:MG lt N X Y)(h:MI lt X Y O ia ib)(e:X.length<=ia){it:Array Keyed}:U9 lt it X Y ((O++X.drop ia++Y.drop ib).map (kas_item it)).toArray:=by
 refine⟨_,rfl,h.pm,?_⟩
 rw[List.drop_eq_nil_of_le e,List.append_nil]
 exact List.pairwise_append.mpr ⟨h.up,Pk G.uy _,fun a ha b hb=>h.lo a ha b (zrJ _ hb)⟩
theorem MI.endL (G:MG lt N X Y)(h:MI lt X Y O ia ib){x:Nat}(hx:X[ia]?=some x)(e:X.length=ia+1)(top:∀y∈Y,lt y x=true){it:Array Keyed}:U9 lt it X Y ((O++Y.drop ib++X.drop ia).map (kas_item it)).toArray:=by
 refine⟨_,rfl,?_,?_⟩
 ·refine List.Perm.trans ?_ h.pm
  rw[List.append_assoc,List.append_assoc]
  exact List.Perm.append_left _ List.perm_append_comm
 ·have ed:X.drop ia=[x]:=by rw[zcd hx,List.drop_eq_nil_of_le (by omega)]
  rw[ed]
  refine List.pairwise_append.mpr ⟨List.pairwise_append.mpr ⟨h.up,Pk G.uy _,fun a ha b hb=>h.lo a ha b (zrJ _ hb)⟩,List.pairwise_singleton _ _,fun a ha b hb=>?_⟩
  rw[List.mem_singleton.mp hb]
  rcases List.mem_append.mp ha with z | z
  ·exact h.lo a z x (List.mem_append_left _ (by rw[ed];exact zrM))
  ·exact top a (List.mem_of_mem_drop z)
end
section
variable {prog:Program}{w:World}{A:Around}{E:Value->Shared->Prop}{κ:SortKind}{it:Array Keyed}{s:Shared}
variable {lt:Nat->Nat->Bool}{N:Nat}
theorem Pn {X:List Nat}{i j k:Nat}(h:j=i+k):((X.map (kas_item it)).toArray).extract i j=(((X.drop i).take k).map (kas_item it)).toArray:=by
 subst h
 apply Array.toList_inj.mp
 rw[Array.toList_extract]
 simp[List.extract,List.map_drop,List.map_take]
theorem wO {X:List Nat}{i j:Nat}(h:j=X.length):((X.map (kas_item it)).toArray).extract i j=((X.drop i).map (kas_item it)).toArray:=by
 subst h
 apply Array.toList_inj.mp
 rw[Array.toList_extract]
 simp[List.extract,List.map_drop]
 rw[List.take_of_length_le]
 simp
theorem Rp {O:List Nat}{x:Nat}:((O.map (kas_item it)).toArray).push (kas_item it x)=((O++[x]).map (kas_item it)).toArray:=by simp
theorem zV {O B:List Nat}:((O.map (kas_item it)).toArray)++((B.map (kas_item it)).toArray)=((O++B).map (kas_item it)).toArray:=by simp
theorem siz {X:List Nat}:((X.map (kas_item it)).toArray).size=X.length:=by simp
theorem zhO {τ:Type}{X Y l:List Nat}{pend:Array (Nat×Nat×Nat)}{R:Option (Array Keyed)×Array Keyed×Nat×Nat × τ->SortSt->Shared->Prop}{body:Nat->Option (Array Keyed)×Array Keyed×Nat×Nat × τ->StateT SortSt Sem (ForInStep (Option (Array Keyed)×Array Keyed×Nat×Nat × τ))}
  (hb:∀z O ia ib (t:τ) g (R':ForInStep (Option (Array Keyed)×Array Keyed×Nat×Nat × τ)->SortSt->Shared->Prop),MI lt X Y O ia ib->ia+1<X.length->ib<Y.length->(∀arr o u v t g,U9 lt it X Y arr->R' (.done (some arr,o,u,v,t)) (yV κ it l pend g) s) ->
   (∀O' ia' ib' t g,MI lt X Y O' ia' ib'->ia'+1<X.length->ib'<Y.length->ia+ib<ia'+ib'->R' (.done (none,(O'.map (kas_item it)).toArray,ia',ib',t)) (yV κ it l pend g) s/\R' (.yield (none,(O'.map (kas_item it)).toArray,ia',ib',t)) (yV κ it l pend g) s) ->
   kasC (model prog w) A E (body z (none,(O.map (kas_item it)).toArray,ia,ib,t)) R' (yV κ it l pend g) s) :
  ∀(f:Nat) (ls:List Nat) (O:List Nat) (ia ib:Nat) (t:τ) (g:Nat),ls.length=f->MI lt X Y O ia ib->ia+1<X.length->ib<Y.length->(∀arr o u v t g,U9 lt it X Y arr->R (some arr,o,u,v,t) (yV κ it l pend g) s) ->
   (∀O' ia' ib' t g,MI lt X Y O' ia' ib'->ia'+1<X.length->ib'<Y.length->ia+ib<=ia'+ib'->(0<f->ia+ib<ia'+ib')->R (none,(O'.map (kas_item it)).toArray,ia',ib',t) (yV κ it l pend g) s) ->
   kasC (model prog w) A E (forIn ls (none,(O.map (kas_item it)).toArray,ia,ib,t) body) R (yV κ it l pend g) s
 | 0,[],O,ia,ib,t,g,_,I,h1,h2,ret,cont=>kasC_nil (cont O ia ib t g I h1 h2 (zrI _) fun z=>by omega)
 | 0,_::_,_,_,_,_,_,hl,_,_,_,_,_=>by simp at hl
 | f+1,[],_,_,_,_,_,hl,_,_,_,_,_=>by simp at hl
 | f+1,z::ls,O,ia,ib,t,g,hl,I,h1,h2,ret,cont=>by
  refine kasC_cons (hb z O ia ib t g _ I h1 h2 (fun arr o u v t g h=>ret arr o u v t g h) fun O' ia' ib' t' g' I' a b c=>⟨cont O' ia' ib' t' g' I' a b (zrL c) fun _=>c,?_⟩)
  exact zhO hb f ls O' ia' ib' t' g' (by simpa using hl) I' a b ret fun O2 ia2 ib2 t2 g2 I2 a2 b2 c2 _=>cont O2 ia2 ib2 t2 g2 I2 a2 b2 (by omega) fun _=>by omega
theorem yO {α σ:Type}{M:Model}{c:Prop}[Decidable c]{m n:StateT σ Sem α}{Q:α->σ->Shared->Prop}{st:σ}(h1:c->kasC M A E m Q st s)(h2:¬c->kasC M A E n Q st s):kasC M A E (if c then m else n) Q st s:=by
 by_cases h:c
 ·rw[if_pos h];exact h1 h
 ·rw[if_neg h];exact h2 h
theorem zmx {X Y l:List Nat}{pend:Array (Nat×Nat×Nat)}{g:Nat}{Q:Array Keyed->SortSt->Shared->Prop}(hc:Mv prog w A κ it s lt N)(G:MG lt N X Y){x0 y0 xl:Nat}(hx0:X[0]?=some x0)(hy0:Y[0]?=some y0)(h0:lt y0 x0=true)(hxl:X[X.length-1]?=some xl)(top:∀y∈Y,lt y xl=true)
  (q:∀arr g',U9 lt it X Y arr->Q arr (yV κ it l pend g') s):kasC (model prog w) A E (mlo' (X.map (kas_item it)).toArray (Y.map (kas_item it)).toArray) Q (yV κ it l pend g) s:=by
 have lx:=(zrv.mp hx0).1
 have ly:=(zrv.mp hy0).1
 have I1:MI lt X Y [y0] 0 1:=MI.start.Ro G hy0 fun x hx=>by rw[hx0] at hx;cases hx;exact h0
 have top':∀{ia x},X[ia]?=some x->X.length=ia+1->∀y∈Y,lt y x=true:=fun {ia x} h e y hy=>by
  rw[show X.length-1=ia by omega,h] at hxl
  cases hxl
  exact top y hy
 refine kasC_bind (kasC_lift (wpAny_rule ?_))
 dsimp only
 refine kasC_bind (xQ (yq hy0) ?_)
 simp only[siz]
 by_cases e1:((1:Nat)==Y.length)=true
 ·rw[if_pos e1]
  have e1':1=Y.length:=eq_of_beq e1
  refine kasC_pure (q _ _ ?_)
  have:=I1.zce G (by omega) (it:=it)
  rw[<-zV,<-zV,<-wO (i:=0) rfl,<-wO (i:=1) rfl] at this
  exact this
 rw[if_neg e1]
 by_cases e2:((0+1:Nat)==X.length)=true
 ·rw[if_pos e2]
  have e2':1=X.length:=eq_of_beq e2
  refine kasC_pure (q _ _ ?_)
  have:=I1.endL G hx0 (by omega) (top' hx0 (by omega)) (it:=it)
  rw[<-zV,<-zV,<-wO (i:=0) rfl,<-wO (i:=1) rfl] at this
  exact this
 rw[if_neg e2]
 have n1:1<Y.length:=Nat.lt_of_le_of_ne ly fun z=>e1 (by rw[<-z];rfl)
 have n2:0+1<X.length:=Nat.lt_of_le_of_ne lx fun z=>e2 (by rw[<-z];rfl)
 refine kasC_bind (kasC_get ?_)
 refine kasC_bind (kasC_range ?_)
 have out:∀{body:Nat->Option (Array Keyed)×Array Keyed×Nat×Nat×Nat->StateT SortSt Sem (ForInStep (Option (Array Keyed)×Array Keyed×Nat×Nat×Nat))} {R:Option (Array Keyed)×Array Keyed×Nat×Nat×Nat->SortSt->Shared->Prop},
   (∀z O ia ib (t:Nat) g (R':ForInStep (Option (Array Keyed)×Array Keyed×Nat×Nat×Nat)->SortSt->Shared->Prop),MI lt X Y O ia ib->ia+1<X.length->ib<Y.length->(∀arr o u v t g,U9 lt it X Y arr->R' (.done (some arr,o,u,v,t)) (yV κ it l pend g) s) ->
    (∀O' ia' ib' t g,MI lt X Y O' ia' ib'->ia'+1<X.length->ib'<Y.length->ia+ib<ia'+ib'->R' (.yield (none,(O'.map (kas_item it)).toArray,ia',ib',t)) (yV κ it l pend g) s) ->
    kasC (model prog w) A E (body z (none,(O.map (kas_item it)).toArray,ia,ib,t)) R' (yV κ it l pend g) s) ->
   (∀arr o u v t g,U9 lt it X Y arr->R (some arr,o,u,v,t) (yV κ it l pend g) s) ->
   ∀(f:Nat) (ls:List Nat) (O:List Nat) (ia ib t g:Nat),ls.length=f->MI lt X Y O ia ib->ia+1<X.length->ib<Y.length->X.length+Y.length<=ia+ib+f->kasC (model prog w) A E (forIn ls (none,(O.map (kas_item it)).toArray,ia,ib,t) body) R (yV κ it l pend g) s:=by
  intro body R hb ret f
  induction f with
  | zero=>intro ls O ia ib t g hl I a b c;omega
  | succ f ih =>
   intro ls O ia ib t g hl I a b c
   cases ls with
   | nil=>simp at hl
   | cons z ls =>
    refine kasC_cons (hb z O ia ib t g _ I a b (fun arr o u v t g h=>ret arr o u v t g h) fun O' ia' ib' t' g' I' a' b' c'=>ih ls O' ia' ib' t' g' (by simpa using hl) I' a' b' (by omega))
 refine out (fun z O ia ib t g' R' I a b ret cont=>?_) (fun arr o u v t g' h=>?_) (X.length+Y.length) _ [y0] 0 1 _ g (by rw[List.length_range'];omega) I1 n2 n1 (by omega)
 ·refine kasC_bind (kasC_range ?_)
  refine zhO (τ:=Nat×Nat) (fun z O ia ib t g R2 I a b ZP v7=>?_) _ _ O ia ib (0,0) g' rfl I a b (fun arr o u v t g h=>?_) (fun O' ia' ib' t g I' a' b' c d=>?_)
  ·
   obtain⟨x,hx⟩:∃x,X[ia]?=some x:=⟨_,zrt (by omega)⟩
   obtain⟨y,hy⟩:∃y,Y[ib]?=some y:=⟨_,zrt (by omega)⟩
   dsimp only
   refine kasC_bind (xQ (yq hy) (kasC_bind (xQ (yq hx) (kasC_bind (zdv hc (G.yN hy) (G.xN hx) rfl ?_)))))
   cases e:lt y x with
   | true =>
    dsimp only
    rw[if_pos rfl]
    refine kasC_bind (xQ (yq hy) ?_)
    have I2:=I.Ro G hy fun w hw=>by rw[hx] at hw;cases hw;exact e
    by_cases e3:(ib+1==Y.length)=true
    ·rw[if_pos e3]
     have e3':=eq_of_beq e3
     refine kasC_pure (ZP _ _ _ _ _ _ ?_)
     rw[Rp,wO rfl,wO rfl,zV,zV]
     exact I2.zce G (by omega)
    ·rw[if_neg e3]
     have hlt:ib+1<Y.length:=Nat.lt_of_le_of_ne b fun z=>e3 (by rw[z];exact beq_self_eq_true _)
     have c2:=v7 _ ia (ib+1) (0,t.2+1) g I2 a hlt (by omega)
     rw[Rp]
     exact yO (fun _=>kasC_pure c2.1) fun _=>kasC_pure c2.2
   | false =>
    dsimp only
    rw[if_neg zrw]
    refine kasC_bind (xQ (yq hx) ?_)
    have e':lt x y=true:=G.T.ne (G.yN hy) (G.xN hx) (Ne.symm (G.ne hx hy)) e
    have I2:=I.X4 G hx fun w hw=>by rw[hy] at hw;cases hw;exact e'
    by_cases e3:(ia+1+1==X.length)=true
    ·rw[if_pos e3]
     have e3':=eq_of_beq e3
     obtain⟨x2,hx2⟩:∃x2,X[ia+1]?=some x2:=⟨_,zrt (by omega)⟩
     refine kasC_pure (ZP _ _ _ _ _ _ ?_)
     rw[Rp,wO rfl,wO rfl,zV,zV]
     exact I2.endL G hx2 (by omega) (top' hx2 (by omega))
    ·rw[if_neg e3]
     have hlt:ia+1+1<X.length:=Nat.lt_of_le_of_ne a fun z=>e3 (by rw[z];exact beq_self_eq_true _)
     have c2:=v7 _ (ia+1) ib (t.1+1,0) g I2 hlt b (by omega)
     rw[Rp]
     exact yO (fun _=>kasC_pure c2.1) fun _=>kasC_pure c2.2
  ·dsimp only
   exact kasC_pure (ret _ _ _ _ _ _ h)
  ·dsimp only
   have zmy:ia+ib<ia'+ib':=d (by rw[List.length_range'];omega)
   refine kasC_bind (kasC_lift (wpAny_rule ?_))
   refine kasC_bind (kasC_range ?_)
   refine zhO (τ:=Nat×Nat×Nat) (fun z O ia ib t g R2 I a b ZP v7=>?_) _ _ O' ia' ib' (_,_,_) g rfl I' a' b' (fun arr o u v t g h=>?_) (fun O2 ia2 ib2 t g I2 a2 b2 c2 _=>?_)
   ·obtain⟨y,hy⟩:∃y,Y[ib]?=some y:=⟨_,zrt (by omega)⟩
    dsimp only
    refine yO (fun _=>?_) (fun _=>?_)
    all_goals
     have gx:∀i x2,X[ia+i]?=some x2->X.getD (ia+i) 0=x2:=fun i x2 h=>by rw[zrF,h];rfl
     have xx:∀i,i<X.length-ia->X[ia+i]?=some (X.getD (ia+i) 0):=fun i hi=>by rw[zrF,zrt (by omega)];rfl
     refine kasC_bind (kasC_modify ?_)
     show kasC _ _ _ _ _ (yV κ it l pend _) s
     refine kasC_bind (xQ (yq hy) ?_)
     refine kasC_bind (Kd (left:=false) (y:=fun i=>X.getD (ia+i) 0) G.T hc rfl (G.yN hy) xx (fun i hi=>G.xN (xx i hi)) (fun i hi=>G.ne (xx i hi) hy) (fun i j hij hj=>Zq G.ux (xx i (by omega)) (xx j hj) (by omega)) (by omega) fun k k1 k2 k3=>?_)
     dsimp only
     by_cases kp:k > 0
     ·rw[if_pos kp]
      have I2:=I.zhN G hy k (by omega) fun i x2 hi hx2=>by
       have:=k2 i hi
       rw[gx _ _ hx2] at this
       exact this
      by_cases e3:(ia+k+1==X.length)=true
      ·rw[if_pos e3]
       have e3':=eq_of_beq e3
       obtain⟨x2,hx2⟩:∃x2,X[ia+k]?=some x2:=⟨_,zrt (by omega)⟩
       refine kasC_pure (ZP _ _ _ _ _ _ ?_)
       rw[Pn (k:=k) rfl,wO rfl,wO rfl,zV,zV,zV]
       exact I2.endL G hx2 (by omega) (top' hx2 (by omega))
      rw[if_neg e3]
      by_cases e4:(ia+k==X.length)=true
      ·rw[if_pos e4]
       have e4':=eq_of_beq e4
       refine kasC_pure (ZP _ _ _ _ _ _ ?_)
       rw[Pn (k:=k) rfl,wO rfl,wO rfl,zV,zV,zV]
       exact I2.zcf G (by omega)
      rw[if_neg e4]
      have h3:ia+k+1<X.length:=by
       have z1:ia+k+1≠X.length:=fun z=>e3 (by rw[z];exact beq_self_eq_true _)
       have z2:ia+k≠X.length:=fun z=>e4 (by rw[z];exact beq_self_eq_true _)
       omega
      obtain⟨x2,hx2⟩:∃x2,X[(ia+k)]?=some x2:=⟨_,zrt (by omega)⟩
      have lyx:lt y x2=true:=by
       have:=k3 k (by omega) (by omega)
       rw[gx k _ (by exact hx2)] at this
       exact G.T.ne (G.xN hx2) (G.yN hy) (G.ne hx2 hy) this
      refine kasC_bind (xQ (yq hy) ?_)
      have I3:=I2.Ro G hy fun w hw=>by rw[hx2] at hw;cases hw;exact lyx
      rw[Pn (k:=k) rfl,zV]
      by_cases e7:(ib+1==Y.length)=true
      ·rw[if_pos e7]
       have e7':=eq_of_beq e7
       refine kasC_pure (ZP _ _ _ _ _ _ ?_)
       rw[Rp,wO rfl,wO rfl,zV,zV]
       exact I3.zce G (by omega)
      rw[if_neg e7]
      have h7:ib+1<Y.length:=Nat.lt_of_le_of_ne b fun z=>e7 (by rw[z];exact beq_self_eq_true _)
      refine kasC_bind (xQ (yq hx2) ?_)
      have gy:∀i y2,Y[ib+1+i]?=some y2->Y.getD (ib+1+i) 0=y2:=fun i y2 h=>by rw[zrF,h];rfl
      have yy:∀i,i<Y.length-(ib+1)->Y[ib+1+i]?=some (Y.getD (ib+1+i) 0):=fun i hi=>by rw[zrF,zrt (by omega)];rfl
      refine kasC_bind (Kd (left:=true) (y:=fun i=>Y.getD (ib+1+i) 0) G.T hc rfl (G.xN hx2) yy (fun i hi=>G.yN (yy i hi)) (fun i hi=>Ne.symm (G.ne hx2 (yy i hi))) (fun i j hij hj=>Zq G.uy (yy i (by omega)) (yy j hj) (by omega)) (by omega) fun k1 j1 j2 j3=>?_)
      dsimp only
      by_cases kq:k1 > 0
      ·rw[if_pos kq]
       have I4:=I3.zeL G hx2 k1 (by omega) fun i y2 hi hy2=>by
        have:=j2 i hi
        rw[gy _ _ hy2] at this
        exact this
       by_cases e5:(ib+1+k1==Y.length)=true
       ·rw[if_pos e5]
        have e5':=eq_of_beq e5
        refine kasC_pure (ZP _ _ _ _ _ _ ?_)
        rw[Rp,Pn (k:=k1) rfl,wO rfl,wO rfl,zV,zV,zV]
        exact I4.zce G (by omega)
       rw[if_neg e5]
       have h5:ib+1+k1<Y.length:=Nat.lt_of_le_of_ne (by omega) fun z=>e5 (by rw[z];exact beq_self_eq_true _)
       refine kasC_bind (xQ (yq hx2) ?_)
       have I5:=I4.X4 G hx2 fun y2 hy2=>by
        have:=j3 k1 (by omega) (by omega)
        rw[gy k1 _ (by exact hy2)] at this
        exact G.T.ne (G.yN hy2) (G.xN hx2) (Ne.symm (G.ne hx2 hy2)) this
       by_cases e6:((ia+k)+1+1==X.length)=true
       ·rw[if_pos e6]
        have e6':=eq_of_beq e6
        obtain⟨x3,hx3⟩:∃x3,X[(ia+k)+1]?=some x3:=⟨_,zrt (by omega)⟩
        refine kasC_pure (ZP _ _ _ _ _ _ ?_)
        rw[Rp,Pn (k:=k1) rfl,zV,Rp,wO rfl,wO rfl,zV,zV]
        exact I5.endL G hx3 (by omega) (top' hx3 (by omega))
       rw[if_neg e6]
       have h6:(ia+k)+1+1<X.length:=Nat.lt_of_le_of_ne (by omega) fun z=>e6 (by rw[z];exact beq_self_eq_true _)
       rw[Rp,Pn (k:=k1) rfl,zV,Rp]
       exact yO (fun _=>kasC_pure (v7 _ ((ia+k)+1) (ib+1+k1) _ _ I5 h6 h5 (by omega)).1) fun _=>kasC_pure (v7 _ ((ia+k)+1) (ib+1+k1) _ _ I5 h6 h5 (by omega)).2
      ·rw[if_neg kq]
       obtain rfl:k1=0:=by omega
       have h5:ib+1<Y.length:=by omega
       refine kasC_bind (xQ (yq hx2) ?_)
       have I5:=I3.X4 G hx2 fun y2 hy2=>by
        have:=j3 0 (by omega) (by omega)
        rw[gy 0 _ (by rw[Nat.add_zero];exact hy2)] at this
        exact G.T.ne (G.yN hy2) (G.xN hx2) (Ne.symm (G.ne hx2 hy2)) this
       by_cases e6:((ia+k)+1+1==X.length)=true
       ·rw[if_pos e6]
        have e6':=eq_of_beq e6
        obtain⟨x3,hx3⟩:∃x3,X[(ia+k)+1]?=some x3:=⟨_,zrt (by omega)⟩
        refine kasC_pure (ZP _ _ _ _ _ _ ?_)
        rw[Rp,Rp,wO rfl,wO rfl,zV,zV]
        exact I5.endL G hx3 (by omega) (top' hx3 (by omega))
       rw[if_neg e6]
       have h6:(ia+k)+1+1<X.length:=Nat.lt_of_le_of_ne (by omega) fun z=>e6 (by rw[z];exact beq_self_eq_true _)
       rw[Rp,Rp]
       exact yO (fun _=>kasC_pure (v7 _ ((ia+k)+1) (ib+1) _ _ I5 h6 h5 (by omega)).1) fun _=>kasC_pure (v7 _ ((ia+k)+1) (ib+1) _ _ I5 h6 h5 (by omega)).2
     ·rw[if_neg kp]
      obtain rfl:k=0:=by omega
      have h3:ia+1<X.length:=a
      obtain⟨x2,hx2⟩:∃x2,X[ia]?=some x2:=⟨_,zrt (by omega)⟩
      have lyx:lt y x2=true:=by
       have:=k3 0 (by omega) (by omega)
       rw[gx 0 _ (by rw[Nat.add_zero];exact hx2)] at this
       exact G.T.ne (G.xN hx2) (G.yN hy) (G.ne hx2 hy) this
      refine kasC_bind (xQ (yq hy) ?_)
      have I3:=I.Ro G hy fun w hw=>by rw[hx2] at hw;cases hw;exact lyx
      by_cases e7:(ib+1==Y.length)=true
      ·rw[if_pos e7]
       have e7':=eq_of_beq e7
       refine kasC_pure (ZP _ _ _ _ _ _ ?_)
       rw[Rp,wO rfl,wO rfl,zV,zV]
       exact I3.zce G (by omega)
      rw[if_neg e7]
      have h7:ib+1<Y.length:=Nat.lt_of_le_of_ne b fun z=>e7 (by rw[z];exact beq_self_eq_true _)
      refine kasC_bind (xQ (yq hx2) ?_)
      have gy:∀i y2,Y[ib+1+i]?=some y2->Y.getD (ib+1+i) 0=y2:=fun i y2 h=>by rw[zrF,h];rfl
      have yy:∀i,i<Y.length-(ib+1)->Y[ib+1+i]?=some (Y.getD (ib+1+i) 0):=fun i hi=>by rw[zrF,zrt (by omega)];rfl
      refine kasC_bind (Kd (left:=true) (y:=fun i=>Y.getD (ib+1+i) 0) G.T hc rfl (G.xN hx2) yy (fun i hi=>G.yN (yy i hi)) (fun i hi=>Ne.symm (G.ne hx2 (yy i hi))) (fun i j hij hj=>Zq G.uy (yy i (by omega)) (yy j hj) (by omega)) (by omega) fun k1 j1 j2 j3=>?_)
      dsimp only
      by_cases kq:k1 > 0
      ·rw[if_pos kq]
       have I4:=I3.zeL G hx2 k1 (by omega) fun i y2 hi hy2=>by
        have:=j2 i hi
        rw[gy _ _ hy2] at this
        exact this
       by_cases e5:(ib+1+k1==Y.length)=true
       ·rw[if_pos e5]
        have e5':=eq_of_beq e5
        refine kasC_pure (ZP _ _ _ _ _ _ ?_)
        rw[Rp,Pn (k:=k1) rfl,wO rfl,wO rfl,zV,zV,zV]
        exact I4.zce G (by omega)
       rw[if_neg e5]
       have h5:ib+1+k1<Y.length:=Nat.lt_of_le_of_ne (by omega) fun z=>e5 (by rw[z];exact beq_self_eq_true _)
       refine kasC_bind (xQ (yq hx2) ?_)
       have I5:=I4.X4 G hx2 fun y2 hy2=>by
        have:=j3 k1 (by omega) (by omega)
        rw[gy k1 _ (by exact hy2)] at this
        exact G.T.ne (G.yN hy2) (G.xN hx2) (Ne.symm (G.ne hx2 hy2)) this
       by_cases e6:(ia+1+1==X.length)=true
       ·rw[if_pos e6]
        have e6':=eq_of_beq e6
        obtain⟨x3,hx3⟩:∃x3,X[ia+1]?=some x3:=⟨_,zrt (by omega)⟩
        refine kasC_pure (ZP _ _ _ _ _ _ ?_)
        rw[Rp,Pn (k:=k1) rfl,zV,Rp,wO rfl,wO rfl,zV,zV]
        exact I5.endL G hx3 (by omega) (top' hx3 (by omega))
       rw[if_neg e6]
       have h6:ia+1+1<X.length:=Nat.lt_of_le_of_ne (by omega) fun z=>e6 (by rw[z];exact beq_self_eq_true _)
       rw[Rp,Pn (k:=k1) rfl,zV,Rp]
       exact yO (fun _=>kasC_pure (v7 _ (ia+1) (ib+1+k1) _ _ I5 h6 h5 (by omega)).1) fun _=>kasC_pure (v7 _ (ia+1) (ib+1+k1) _ _ I5 h6 h5 (by omega)).2
      ·rw[if_neg kq]
       obtain rfl:k1=0:=by omega
       have h5:ib+1<Y.length:=by omega
       refine kasC_bind (xQ (yq hx2) ?_)
       have I5:=I3.X4 G hx2 fun y2 hy2=>by
        have:=j3 0 (by omega) (by omega)
        rw[gy 0 _ (by rw[Nat.add_zero];exact hy2)] at this
        exact G.T.ne (G.yN hy2) (G.xN hx2) (Ne.symm (G.ne hx2 hy2)) this
       by_cases e6:(ia+1+1==X.length)=true
       ·rw[if_pos e6]
        have e6':=eq_of_beq e6
        obtain⟨x3,hx3⟩:∃x3,X[ia+1]?=some x3:=⟨_,zrt (by omega)⟩
        refine kasC_pure (ZP _ _ _ _ _ _ ?_)
        rw[Rp,Rp,wO rfl,wO rfl,zV,zV]
        exact I5.endL G hx3 (by omega) (top' hx3 (by omega))
       rw[if_neg e6]
       have h6:ia+1+1<X.length:=Nat.lt_of_le_of_ne (by omega) fun z=>e6 (by rw[z];exact beq_self_eq_true _)
       rw[Rp,Rp]
       exact yO (fun _=>kasC_pure (v7 _ (ia+1) (ib+1) _ _ I5 h6 h5 (by omega)).1) fun _=>kasC_pure (v7 _ (ia+1) (ib+1) _ _ I5 h6 h5 (by omega)).2
   ·dsimp only
    exact kasC_pure (ret _ _ _ _ _ _ h)
   ·dsimp only
    refine kasC_bind (kasC_modify ?_)
    show kasC _ _ _ _ _ (yV κ it l pend _) s
    exact kasC_pure (cont O2 ia2 ib2 _ _ I2 a2 b2 (by omega))
 ·dsimp only
  exact kasC_pure (q arr g' h)
end
section
variable {lt:Nat->Nat->Bool}{N:Nat}
structure HI (lt:Nat->Nat->Bool)(X Y O:List Nat)(na nb:Nat):Prop where
 pm:(X.take na++Y.take nb++O.reverse).Perm (X++Y)
 up:Up lt O.reverse
 hi:∀o∈O,∀r∈X.take na++Y.take nb,lt r o=true
variable {X Y O:List Nat}{na nb:Nat}
theorem vo {l:List Nat}{i z:Nat}(h:z∈l.take i):∃j,j<i/\l[j]?=some z:=by
 obtain⟨m,hm,e⟩:=zr9 h
 rw[zrQ] at hm
 refine⟨m,by omega,?_⟩
 rw[List.getElem_take] at e
 rw[zrt (by omega),e]
theorem MG.above (G:MG lt N X Y){l:List Nat}(hl:∀z∈l,z<N)(u:Up lt l){i x z:Nat}(hx:x<N)(h1:1<=i)(h2:i<=l.length)(hi:∀w,l[i-1]?=some w->lt w x=true)(hz:z∈l.take i):lt z x=true:=by
 obtain⟨j,hj,e⟩:=vo hz
 rcases Nat.lt_or_eq_of_le (show j<=i-1 by omega) with q | q
 ·obtain⟨w,hw⟩:∃w,l[i-1]?=some w:=⟨_,zrt (by omega)⟩
  exact G.T.tr (hl z (zrx e)) (hl w (zrx hw)) hx (Zq u e hw q) (hi w hw)
 ·exact hi z (by rw[<-q];exact e)
theorem zbu {l:List Nat}{n x:Nat}(h0:0<n)(hx:l[n-1]?=some x):l.take n=l.take (n-1)++[x]:=by
 have:=zZ hx
 rw[show n-1+1=n by omega] at this
 exact this
theorem HI.X4 (G:MG lt N X Y)(h:HI lt X Y O na nb){x:Nat}(h0:0<na)(hx:X[na-1]?=some x)(h1:1<=nb)(h2:nb<=Y.length)(hy:∀y,Y[nb-1]?=some y->lt y x=true):HI lt X Y (O++[x]) (na-1) nb:=by
 have et:=zbu h0 hx
 have er:(O++[x]).reverse=x::O.reverse:=by simp
 refine⟨?_,?_,fun o ho r hr=>?_⟩
 ·have:=h.pm
  rw[et] at this
  rw[er]
  refine List.Perm.trans ?_ this
  have e1:(X.take (na-1)++Y.take nb++x::O.reverse).Perm (x::(X.take (na-1)++Y.take nb++O.reverse)):=List.perm_middle
  refine e1.trans ?_
  have e2:(x::(X.take (na-1)++(Y.take nb++O.reverse))).Perm (X.take (na-1)++x::(Y.take nb++O.reverse)):=List.perm_middle.symm
  simpa using e2
 ·rw[er]
  exact List.pairwise_cons.mpr ⟨fun o ho=>h.hi o (List.mem_reverse.mp ho) x (List.mem_append_left _ (by rw[et];exact zrJ _ zrM)),h.up⟩
 ·rcases List.mem_append.mp ho with z | z
  ·refine h.hi o z r ?_
   rcases List.mem_append.mp hr with q | q
   ·exact List.mem_append_left _ (by rw[et];exact List.mem_append_left _ q)
   ·exact zrJ _ q
  ·rw[List.mem_singleton.mp z]
   rcases List.mem_append.mp hr with q | q
   ·obtain⟨j,hj,e⟩:=vo q
    exact Zq G.ux e hx hj
   ·exact G.above (fun z hz=>G.hN z (zrJ _ hz)) G.uy (G.xN hx) h1 h2 hy q
theorem HI.Ro (G:MG lt N X Y)(h:HI lt X Y O na nb){y:Nat}(h0:0<nb)(hy:Y[nb-1]?=some y)(h1:1<=na)(h2:na<=X.length)(hx:∀x,X[na-1]?=some x->lt x y=true):HI lt X Y (O++[y]) na (nb-1):=by
 have et:=zbu h0 hy
 have er:(O++[y]).reverse=y::O.reverse:=by simp
 refine⟨?_,?_,fun o ho r hr=>?_⟩
 ·have:=h.pm
  rw[et] at this
  rw[er]
  simpa using this
 ·rw[er]
  exact List.pairwise_cons.mpr ⟨fun o ho=>h.hi o (List.mem_reverse.mp ho) y (zrJ _ (by rw[et];exact zrJ _ zrM)),h.up⟩
 ·rcases List.mem_append.mp ho with z | z
  ·refine h.hi o z r ?_
   rcases List.mem_append.mp hr with q | q
   ·exact List.mem_append_left _ q
   ·exact zrJ _ (by rw[et];exact List.mem_append_left _ q)
  ·rw[List.mem_singleton.mp z]
   rcases List.mem_append.mp hr with q | q
   ·exact G.above (fun z hz=>G.hN z (List.mem_append_left _ hz)) G.ux (G.yN hy) h1 h2 hx q
   ·obtain⟨j,hj,e⟩:=vo q
    exact Zq G.uy e hy hj
theorem HI.zhN (G:MG lt N X Y){y:Nat}(hn:1<=nb)(hnY:nb<=Y.length)(hy:Y[nb-1]?=some y):∀(k a0:Nat) {O:List Nat},HI lt X Y O (a0+k) nb->a0+k<=X.length->(∀i x,a0<=i->i<a0+k->X[i]?=some x->lt y x=true)->HI lt X Y (O++((X.take (a0+k)).drop a0).reverse) a0 nb
 | 0,a0,O,h,_,_=>by
  have e:(X.take (a0+0)).drop a0=[]:=List.drop_eq_nil_of_le (by rw[zrQ];omega)
  rw[e]
  simpa using h
 | k+1,a0,O,h,hk,hb=>by
  obtain⟨x,hx⟩:∃x,X[a0+k]?=some x:=⟨_,zrt (by omega)⟩
  have h1:=h.X4 G (x:=x) (by omega) (by rw[show a0+(k+1)-1=a0+k by omega];exact hx) hn hnY fun w hw=>by
   rw[hy] at hw
   cases hw
   exact hb (a0+k) x (by omega) (by omega) hx
  rw[show a0+(k+1)-1=a0+k by omega] at h1
  have ih:=HI.zhN G hn hnY hy k a0 h1 (by omega) fun i x a b c=>hb i x a (by omega) c
  have e:((X.take (a0+(k+1))).drop a0).reverse=x::((X.take (a0+k)).drop a0).reverse:=by
   rw[show a0+(k+1)=a0+k+1 by omega,zZ hx,List.drop_append_of_le_length (by rw[zrQ];omega)]
   simp
  rw[e]
  simpa using ih
theorem HI.zeL (G:MG lt N X Y){x:Nat}(hn:1<=na)(hnX:na<=X.length)(hx:X[na-1]?=some x):∀(k a0:Nat) {O:List Nat},HI lt X Y O na (a0+k)->a0+k<=Y.length->(∀i y,a0<=i->i<a0+k->Y[i]?=some y->lt x y=true)->HI lt X Y (O++((Y.take (a0+k)).drop a0).reverse) na a0
 | 0,a0,O,h,_,_=>by
  have e:(Y.take (a0+0)).drop a0=[]:=List.drop_eq_nil_of_le (by rw[zrQ];omega)
  rw[e]
  simpa using h
 | k+1,a0,O,h,hk,hb=>by
  obtain⟨y,hy⟩:∃y,Y[a0+k]?=some y:=⟨_,zrt (by omega)⟩
  have h1:=h.Ro G (y:=y) (by omega) (by rw[show a0+(k+1)-1=a0+k by omega];exact hy) hn hnX fun w hw=>by
   rw[hx] at hw
   cases hw
   exact hb (a0+k) y (by omega) (by omega) hy
  rw[show a0+(k+1)-1=a0+k by omega] at h1
  have ih:=HI.zeL G hn hnX hx k a0 h1 (by omega) fun i x a b c=>hb i x a (by omega) c
  have e:((Y.take (a0+(k+1))).drop a0).reverse=y::((Y.take (a0+k)).drop a0).reverse:=by
   rw[show a0+(k+1)=a0+k+1 by omega,zZ hy,List.drop_append_of_le_length (by rw[zrQ];omega)]
   simp
  rw[e]
  simpa using ih
theorem SM {l:List Nat}(u:Up lt l)(i:Nat):Up lt (l.take i):=u.sublist (List.take_sublist _ _)
theorem HI.zcf (G:MG lt N X Y)(h:HI lt X Y O na nb)(e:na=0){it:Array Keyed}:U9 lt it X Y ((X.take na++Y.take nb++O.reverse).map (kas_item it)).toArray:=by
 refine⟨_,rfl,h.pm,?_⟩
 have hh:=h.hi
 subst e
 rw[List.take_zero,List.nil_append] at *
 exact List.pairwise_append.mpr ⟨SM G.uy _,h.up,fun a ha b hb=>hh b (List.mem_reverse.mp hb) a ha⟩
theorem HI.zce (G:MG lt N X Y)(h:HI lt X Y O na nb)(e:nb=0){it:Array Keyed}:U9 lt it X Y ((X.take na++Y.take nb++O.reverse).map (kas_item it)).toArray:=by
 refine⟨_,rfl,h.pm,?_⟩
 have hh:=h.hi
 subst e
 rw[List.take_zero,List.append_nil] at *
 exact List.pairwise_append.mpr ⟨SM G.ux _,h.up,fun a ha b hb=>hh b (List.mem_reverse.mp hb) a ha⟩
theorem HI.zgs (G:MG lt N X Y)(h:HI lt X Y O na nb)(e:nb=1)(bot:∀y x,Y[0]?=some y->x∈X->lt y x=true){it:Array Keyed}:U9 lt it X Y ((Y.take nb++X.take na++O.reverse).map (kas_item it)).toArray:=by
 refine⟨_,rfl,(List.Perm.append_right _ List.perm_append_comm).trans h.pm,?_⟩
 refine List.pairwise_append.mpr ⟨List.pairwise_append.mpr ⟨SM G.uy _,SM G.ux _,fun a ha b hb=>?_⟩,h.up,fun a ha b hb=>h.hi b (List.mem_reverse.mp hb) a ?_⟩
 ·obtain⟨j,hj,ej⟩:=vo ha
  obtain rfl:j=0:=by omega
  exact bot a b ej (List.mem_of_mem_take hb)
 ·rcases List.mem_append.mp ha with z | z
  ·exact zrJ _ z
  ·exact List.mem_append_left _ z
end
section
variable {prog:Program}{w:World}{A:Around}{E:Value->Shared->Prop}{κ:SortKind}{it:Array Keyed}{s:Shared}
variable {lt:Nat->Nat->Bool}{N:Nat}
def mhi':Array Keyed->Array Keyed->StateT SortSt Sem (Array Keyed):=sortPriv% PySem.Builtin.mergeHi
theorem zfM {X:List Nat}{i j:Nat}:((X.map (kas_item it)).toArray).extract i j=(((X.take j).drop i).map (kas_item it)).toArray:=by
 apply Array.toList_inj.mp
 rw[Array.toList_extract]
 simp only[List.extract,List.toList_toArray]
 rw[<-List.map_drop,<-List.map_take,List.drop_take]
theorem wz {X:List Nat}{j:Nat}:((X.map (kas_item it)).toArray).extract 0 j=((X.take j).map (kas_item it)).toArray:=by
 rw[zfM,List.drop_zero]
theorem ZR {O:List Nat}:((O.map (kas_item it)).toArray).reverse=(O.reverse.map (kas_item it)).toArray:=by simp
theorem hloop {τ:Type}{X Y l:List Nat}{pend:Array (Nat×Nat×Nat)}{R:Option (Array Keyed)×Nat×Nat×Array Keyed × τ->SortSt->Shared->Prop}{body:Nat->Option (Array Keyed)×Nat×Nat×Array Keyed × τ->StateT SortSt Sem (ForInStep (Option (Array Keyed)×Nat×Nat×Array Keyed × τ))}
  (hb:∀z O na nb (t:τ) g (R':ForInStep (Option (Array Keyed)×Nat×Nat×Array Keyed × τ)->SortSt->Shared->Prop),HI lt X Y O na nb->0<na->na<=X.length->1<nb->nb<=Y.length->(∀arr u v o t g,U9 lt it X Y arr->R' (.done (some arr,u,v,o,t)) (yV κ it l pend g) s) ->
   (∀O' na' nb' t g,HI lt X Y O' na' nb'->0<na'->na'<=X.length->1<nb'->nb'<=Y.length->na'+nb'<na+nb->R' (.done (none,na',nb',(O'.map (kas_item it)).toArray,t)) (yV κ it l pend g) s/\R' (.yield (none,na',nb',(O'.map (kas_item it)).toArray,t)) (yV κ it l pend g) s) ->
   kasC (model prog w) A E (body z (none,na,nb,(O.map (kas_item it)).toArray,t)) R' (yV κ it l pend g) s) :
  ∀(f:Nat) (ls:List Nat) (O:List Nat) (na nb:Nat) (t:τ) (g:Nat),ls.length=f->HI lt X Y O na nb->0<na->na<=X.length->1<nb->nb<=Y.length->(∀arr u v o t g,U9 lt it X Y arr->R (some arr,u,v,o,t) (yV κ it l pend g) s) ->
   (∀O' na' nb' t g,HI lt X Y O' na' nb'->0<na'->na'<=X.length->1<nb'->nb'<=Y.length->na'+nb'<=na+nb->(0<f->na'+nb'<na+nb)->R (none,na',nb',(O'.map (kas_item it)).toArray,t) (yV κ it l pend g) s) ->
   kasC (model prog w) A E (forIn ls (none,na,nb,(O.map (kas_item it)).toArray,t) body) R (yV κ it l pend g) s
 | 0,[],O,na,nb,t,g,_,I,h1,h2,h3,h4,ret,cont=>kasC_nil (cont O na nb t g I h1 h2 h3 h4 (zrI _) fun z=>by omega)
 | 0,_::_,_,_,_,_,_,hl,_,_,_,_,_,_,_=>by simp at hl
 | f+1,[],_,_,_,_,_,hl,_,_,_,_,_,_,_=>by simp at hl
 | f+1,z::ls,O,na,nb,t,g,hl,I,h1,h2,h3,h4,ret,cont=>by
  refine kasC_cons (hb z O na nb t g _ I h1 h2 h3 h4 (fun arr u v o t g h=>ret arr u v o t g h) fun O' na' nb' t' g' I' a b c d e=>⟨cont O' na' nb' t' g' I' a b c d (zrL e) fun _=>e,?_⟩)
  exact hloop hb f ls O' na' nb' t' g' (by simpa using hl) I' a b c d ret fun O2 na2 nb2 t2 g2 I2 a2 b2 c2 d2 e2 _=>cont O2 na2 nb2 t2 g2 I2 a2 b2 c2 d2 (by omega) fun _=>by omega
theorem zmz {X Y l:List Nat}{pend:Array (Nat×Nat×Nat)}{g:Nat}{Q:Array Keyed->SortSt->Shared->Prop}(hc:Mv prog w A κ it s lt N)(G:MG lt N X Y){xl y0:Nat}(hxl:X[X.length-1]?=some xl)(hy0:Y[0]?=some y0)(top:∀y∈Y,lt y xl=true)(bot:∀y x,Y[0]?=some y->x∈X->lt y x=true)
  (q:∀arr g',U9 lt it X Y arr->Q arr (yV κ it l pend g') s):kasC (model prog w) A E (mhi' (X.map (kas_item it)).toArray (Y.map (kas_item it)).toArray) Q (yV κ it l pend g) s:=by
 have lx:0<X.length:=by have:=(zrv.mp hxl).1;omega
 have ly:=(zrv.mp hy0).1
 have I0:HI lt X Y [] X.length Y.length:=⟨by rw[zrV,zrV];simp,.nil,fun o h=>by cases h⟩
 have I1:HI lt X Y [xl] (X.length-1) Y.length:=I0.X4 G lx hxl ly (zrI _) fun y hy=>top y (zrx hy)
 refine kasC_bind (kasC_lift (wpAny_rule ?_))
 dsimp only
 simp only[siz]
 refine kasC_bind (xQ (yq hxl) ?_)
 have eo:(#[kas_item it xl]:Array Keyed)=([xl].map (kas_item it)).toArray:=rfl
 rw[eo]
 by_cases e1:(X.length-1==0)=true
 ·rw[if_pos e1]
  refine kasC_pure (q _ _ ?_)
  rw[wz,wz,ZR,zV,zV]
  exact I1.zcf G (eq_of_beq e1)
 rw[if_neg e1]
 by_cases e2:(Y.length==1)=true
 ·rw[if_pos e2]
  refine kasC_pure (q _ _ ?_)
  rw[wz,wz,ZR,zV,zV]
  exact I1.zgs G (eq_of_beq e2) bot
 rw[if_neg e2]
 have n1:0<X.length-1:=Nat.pos_of_ne_zero fun z=>e1 (by rw[z];rfl)
 have n2:1<Y.length:=Nat.lt_of_le_of_ne ly fun z=>e2 (by rw[<-z];rfl)
 refine kasC_bind (kasC_get ?_)
 refine kasC_bind (kasC_range ?_)
 have out:∀{body:Nat->Option (Array Keyed)×Nat×Nat×Array Keyed×Nat->StateT SortSt Sem (ForInStep (Option (Array Keyed)×Nat×Nat×Array Keyed×Nat))} {R:Option (Array Keyed)×Nat×Nat×Array Keyed×Nat->SortSt->Shared->Prop},
   (∀z O na nb (t:Nat) g (R':ForInStep (Option (Array Keyed)×Nat×Nat×Array Keyed×Nat)->SortSt->Shared->Prop),HI lt X Y O na nb->0<na->na<=X.length->1<nb->nb<=Y.length->(∀arr u v o t g,U9 lt it X Y arr->R' (.done (some arr,u,v,o,t)) (yV κ it l pend g) s) ->
    (∀O' na' nb' t g,HI lt X Y O' na' nb'->0<na'->na'<=X.length->1<nb'->nb'<=Y.length->na'+nb'<na+nb->R' (.yield (none,na',nb',(O'.map (kas_item it)).toArray,t)) (yV κ it l pend g) s) ->
    kasC (model prog w) A E (body z (none,na,nb,(O.map (kas_item it)).toArray,t)) R' (yV κ it l pend g) s) ->
   (∀arr u v o t g,U9 lt it X Y arr->R (some arr,u,v,o,t) (yV κ it l pend g) s) ->
   ∀(f:Nat) (ls:List Nat) (O:List Nat) (na nb t g:Nat),ls.length=f->HI lt X Y O na nb->0<na->na<=X.length->1<nb->nb<=Y.length->na+nb<=f->kasC (model prog w) A E (forIn ls (none,na,nb,(O.map (kas_item it)).toArray,t) body) R (yV κ it l pend g) s:=by
  intro body R hb ret f
  induction f with
  | zero=>intro ls O na nb t g hl I a b c d e;omega
  | succ f ih =>
   intro ls O na nb t g hl I a b c d e
   cases ls with
   | nil=>simp at hl
   | cons z ls =>
    exact kasC_cons (hb z O na nb t g _ I a b c d (fun arr u v o t g h=>ret arr u v o t g h) fun O' na' nb' t' g' I' a' b' c' d' e'=>ih ls O' na' nb' t' g' (by simpa using hl) I' a' b' c' d' (by omega))
 refine out (fun z O na nb t g' R' I a ax b bx ret cont=>?_) (fun arr u v o t g' h=>?_) (X.length+Y.length) _ [xl] (X.length-1) Y.length _ g (by rw[List.length_range'];omega) I1 n1 (by omega) n2 (zrI _) (by omega)
 ·refine kasC_bind (kasC_range ?_)
  refine hloop (τ:=Nat×Nat) (fun z O na nb t g R2 I a ax b bx ZP v7=>?_) _ _ O na nb (0,0) g' rfl I a ax b bx (fun arr u v o t g h=>?_) (fun O' na' nb' t g I' a' ax' b' bx' c d=>?_)
  ·obtain⟨x,hx⟩:∃x,X[na-1]?=some x:=⟨_,zrt (by omega)⟩
   obtain⟨y,hy⟩:∃y,Y[nb-1]?=some y:=⟨_,zrt (by omega)⟩
   dsimp only
   refine kasC_bind (xQ (yq hy) (kasC_bind (xQ (yq hx) (kasC_bind (zdv hc (G.yN hy) (G.xN hx) rfl ?_)))))
   cases e:lt y x with
   | true =>
    dsimp only
    rw[if_pos rfl]
    refine kasC_bind (xQ (yq hx) ?_)
    have I2:=I.X4 G (x:=x) a hx (by omega) bx fun w hw=>by rw[hy] at hw;cases hw;exact e
    rw[Rp]
    by_cases e3:(na-1==0)=true
    ·rw[if_pos e3]
     refine kasC_pure (ZP _ _ _ _ _ _ ?_)
     rw[wz,wz,ZR,zV,zV]
     exact I2.zcf G (eq_of_beq e3)
    ·rw[if_neg e3]
     have h3:0<na-1:=Nat.pos_of_ne_zero fun z=>e3 (by rw[z];rfl)
     have c2:=v7 _ (na-1) nb (t.1+1,0) g I2 h3 (by omega) b bx (by omega)
     exact yO (fun _=>kasC_pure c2.1) fun _=>kasC_pure c2.2
   | false =>
    dsimp only
    rw[if_neg zrw]
    refine kasC_bind (xQ (yq hy) ?_)
    have e':lt x y=true:=G.T.ne (G.yN hy) (G.xN hx) (Ne.symm (G.ne hx hy)) e
    have I2:=I.Ro G (y:=y) (by omega) hy (by omega) ax fun w hw=>by rw[hx] at hw;cases hw;exact e'
    rw[Rp]
    by_cases e3:(nb-1==1)=true
    ·rw[if_pos e3]
     refine kasC_pure (ZP _ _ _ _ _ _ ?_)
     rw[wz,wz,ZR,zV,zV]
     exact I2.zgs G (eq_of_beq e3) bot
    ·rw[if_neg e3]
     have h3:1<nb-1:=by
      have:nb-1≠1:=fun z=>e3 (by rw[z];rfl)
      omega
     have c2:=v7 _ na (nb-1) (0,t.2+1) g I2 a ax h3 (by omega) (by omega)
     exact yO (fun _=>kasC_pure c2.1) fun _=>kasC_pure c2.2
  ·dsimp only
   exact kasC_pure (ret _ _ _ _ _ _ h)
  ·dsimp only
   have zmy:na'+nb'<na+nb:=d (by rw[List.length_range'];omega)
   refine kasC_bind (kasC_lift (wpAny_rule ?_))
   refine kasC_bind (kasC_range ?_)
   refine hloop (τ:=Nat×Nat×Nat) (fun z O na nb t g R2 I a ax b bx ZP v7=>?_) _ _ O' na' nb' (_,_,_) g rfl I' a' ax' b' bx' (fun arr u v o t g h=>?_) (fun O2 na2 nb2 t g I2 a2 ax2 b2 bx2 c2 _=>?_)
   ·obtain⟨y,hy⟩:∃y,Y[nb-1]?=some y:=⟨_,zrt (by omega)⟩
    dsimp only
    refine yO (fun _=>?_) (fun _=>?_)
    all_goals
     have gx:∀i x2,X[i]?=some x2->X.getD i 0=x2:=fun i x2 h=>by rw[zrF,h];rfl
     have xx:∀i,i<na->X[0+i]?=some (X.getD i 0):=fun i hi=>by rw[Nat.zero_add,zrF,zrt (by omega)];rfl
     refine kasC_bind (kasC_modify ?_)
     show kasC _ _ _ _ _ (yV κ it l pend _) s
     refine kasC_bind (xQ (yq hy) ?_)
     refine kasC_bind (Kd (left:=false) (y:=fun i=>X.getD i 0) G.T hc rfl (G.yN hy) xx (fun i hi=>G.xN (xx i hi)) (fun i hi=>G.ne (xx i hi) hy) (fun i j hij hj=>Zq G.ux (xx i (by omega)) (xx j hj) (by omega)) (by omega) fun at1 k1 k2 k3=>?_)
     dsimp only
     by_cases kp:na-at1 > 0
     ·rw[if_pos kp]
      obtain⟨kk,ek⟩:∃kk,na=at1+kk:=⟨na-at1,by omega⟩
      have I':=I
      rw[ek] at I'
      have I2:=HI.zhN G (by omega) (by omega) hy kk at1 I' (by omega) fun i x2 hi1 hi2 hx2=>by
       have:=k3 i hi1 (by omega)
       rw[gx i _ hx2] at this
       exact G.T.ne (G.xN hx2) (G.yN hy) (G.ne hx2 hy) this
      rw[<-ek] at I2
      rw[zfM (X:=X) (i:=at1) (j:=na),ZR,zV]
      by_cases e3:(at1==0)=true
      ·rw[if_pos e3]
       have e3':=eq_of_beq e3
       refine kasC_pure (ZP _ _ _ _ _ _ ?_)
       rw[wz,wz,ZR,zV,zV]
       exact I2.zcf G e3'
      rw[if_neg e3]
      have h3:0<at1:=Nat.pos_of_ne_zero fun z=>e3 (by rw[z];rfl)
      obtain⟨x2,hx2⟩:∃x2,X[at1-1]?=some x2:=⟨_,zrt (by omega)⟩
      have lxy:lt x2 y=true:=by
       have:=k2 (at1-1) (by omega)
       rw[gx _ _ hx2] at this
       exact this
      refine kasC_bind (xQ (yq hy) ?_)
      have I3:=I2.Ro G (y:=y) (by omega) hy (by omega) (by omega) fun w hw=>by rw[hx2] at hw;cases hw;exact lxy
      rw[Rp]
      by_cases e7:(nb-1==1)=true
      ·rw[if_pos e7]
       have e7':=eq_of_beq e7
       refine kasC_pure (ZP _ _ _ _ _ _ ?_)
       rw[wz,wz,ZR,zV,zV]
       exact I3.zgs G e7' bot
      rw[if_neg e7]
      have h7:1<nb-1:=by
       have:nb-1≠1:=fun z=>e7 (by rw[z];rfl)
       omega
      refine kasC_bind (xQ (yq hx2) ?_)
      have gy:∀i y2,Y[i]?=some y2->Y.getD i 0=y2:=fun i y2 h=>by rw[zrF,h];rfl
      have yy:∀i,i<nb-1->Y[0+i]?=some (Y.getD i 0):=fun i hi=>by rw[Nat.zero_add,zrF,zrt (by omega)];rfl
      refine kasC_bind (Kd (left:=true) (y:=fun i=>Y.getD i 0) G.T hc rfl (G.xN hx2) yy (fun i hi=>G.yN (yy i hi)) (fun i hi=>Ne.symm (G.ne hx2 (yy i hi))) (fun i j hij hj=>Zq G.uy (yy i (by omega)) (yy j hj) (by omega)) (by omega) fun at2 j1 j2 j3=>?_)
      dsimp only
      by_cases kq:nb-1-at2 > 0
      ·rw[if_pos kq]
       obtain⟨kk2,ek2⟩:∃kk2,nb-1=at2+kk2:=⟨nb-1-at2,by omega⟩
       have I3':=I3
       rw[ek2] at I3'
       have I4:=HI.zeL G (by omega) (by omega) hx2 kk2 at2 I3' (by omega) fun i y2 hi1 hi2 hy2=>by
        have:=j3 i hi1 (by omega)
        rw[gy i _ hy2] at this
        exact G.T.ne (G.yN hy2) (G.xN hx2) (Ne.symm (G.ne hx2 hy2)) this
       rw[<-ek2] at I4
       rw[zfM (X:=Y) (i:=at2) (j:=nb-1),ZR,zV]
       by_cases e5:(at2==1)=true
       ·rw[if_pos e5]
        have e5':=eq_of_beq e5
        refine kasC_pure (ZP _ _ _ _ _ _ ?_)
        rw[wz,wz,ZR,zV,zV]
        exact I4.zgs G e5' bot
       rw[if_neg e5]
       by_cases e8:(at2==0)=true
       ·rw[if_pos e8]
        have e8':=eq_of_beq e8
        refine kasC_pure (ZP _ _ _ _ _ _ ?_)
        rw[wz,wz,ZR,zV,zV]
        exact I4.zce G e8'
       rw[if_neg e8]
       have h5:1<at2:=by
        have z1:at2≠1:=fun z=>e5 (by rw[z];rfl)
        have z2:at2≠0:=fun z=>e8 (by rw[z];rfl)
        omega
       refine kasC_bind (xQ (yq hx2) ?_)
       have I5:=I4.X4 G (x:=x2) (by omega) hx2 (by omega) (by omega) fun y2 hy2=>by
        have:=j2 (at2-1) (by omega)
        rw[gy _ _ hy2] at this
        exact this
       rw[Rp]
       by_cases e6:(at1-1==0)=true
       ·rw[if_pos e6]
        have e6':=eq_of_beq e6
        refine kasC_pure (ZP _ _ _ _ _ _ ?_)
        rw[wz,wz,ZR,zV,zV]
        exact I5.zcf G e6'
       rw[if_neg e6]
       have h6:0<at1-1:=Nat.pos_of_ne_zero fun z=>e6 (by rw[z];rfl)
       exact yO (fun _=>kasC_pure (v7 _ (at1-1) at2 _ _ I5 h6 (by omega) h5 (by omega) (by omega)).1) fun _=>kasC_pure (v7 _ (at1-1) at2 _ _ I5 h6 (by omega) h5 (by omega) (by omega)).2
      ·rw[if_neg kq]
       have e22:at2=nb-1:=by omega
       have h5:1<nb-1:=by omega
       refine kasC_bind (xQ (yq hx2) ?_)
       have I5:=I3.X4 G (x:=x2) (by omega) hx2 (by omega) (by omega) fun y2 hy2=>by
        have:=j2 ((nb-1)-1) (by omega)
        rw[gy _ _ hy2] at this
        exact this
       rw[Rp]
       by_cases e6:(at1-1==0)=true
       ·rw[if_pos e6]
        have e6':=eq_of_beq e6
        refine kasC_pure (ZP _ _ _ _ _ _ ?_)
        rw[wz,wz,ZR,zV,zV]
        exact I5.zcf G e6'
       rw[if_neg e6]
       have h6:0<at1-1:=Nat.pos_of_ne_zero fun z=>e6 (by rw[z];rfl)
       exact yO (fun _=>kasC_pure (v7 _ (at1-1) (nb-1) _ _ I5 h6 (by omega) h5 (by omega) (by omega)).1) fun _=>kasC_pure (v7 _ (at1-1) (nb-1) _ _ I5 h6 (by omega) h5 (by omega) (by omega)).2
     ·rw[if_neg kp]
      have e11:at1=na:=by omega
      have h3:0<na:=a
      obtain⟨x2,hx2⟩:∃x2,X[na-1]?=some x2:=⟨_,zrt (by omega)⟩
      have lxy:lt x2 y=true:=by
       have:=k2 (na-1) (by omega)
       rw[gx _ _ hx2] at this
       exact this
      refine kasC_bind (xQ (yq hy) ?_)
      have I3:=I.Ro G (y:=y) (by omega) hy (by omega) (by omega) fun w hw=>by rw[hx2] at hw;cases hw;exact lxy
      rw[Rp]
      by_cases e7:(nb-1==1)=true
      ·rw[if_pos e7]
       have e7':=eq_of_beq e7
       refine kasC_pure (ZP _ _ _ _ _ _ ?_)
       rw[wz,wz,ZR,zV,zV]
       exact I3.zgs G e7' bot
      rw[if_neg e7]
      have h7:1<nb-1:=by
       have:nb-1≠1:=fun z=>e7 (by rw[z];rfl)
       omega
      refine kasC_bind (xQ (yq hx2) ?_)
      have gy:∀i y2,Y[i]?=some y2->Y.getD i 0=y2:=fun i y2 h=>by rw[zrF,h];rfl
      have yy:∀i,i<nb-1->Y[0+i]?=some (Y.getD i 0):=fun i hi=>by rw[Nat.zero_add,zrF,zrt (by omega)];rfl
      refine kasC_bind (Kd (left:=true) (y:=fun i=>Y.getD i 0) G.T hc rfl (G.xN hx2) yy (fun i hi=>G.yN (yy i hi)) (fun i hi=>Ne.symm (G.ne hx2 (yy i hi))) (fun i j hij hj=>Zq G.uy (yy i (by omega)) (yy j hj) (by omega)) (by omega) fun at2 j1 j2 j3=>?_)
      dsimp only
      by_cases kq:nb-1-at2 > 0
      ·rw[if_pos kq]
       obtain⟨kk2,ek2⟩:∃kk2,nb-1=at2+kk2:=⟨nb-1-at2,by omega⟩
       have I3':=I3
       rw[ek2] at I3'
       have I4:=HI.zeL G (by omega) (by omega) hx2 kk2 at2 I3' (by omega) fun i y2 hi1 hi2 hy2=>by
        have:=j3 i hi1 (by omega)
        rw[gy i _ hy2] at this
        exact G.T.ne (G.yN hy2) (G.xN hx2) (Ne.symm (G.ne hx2 hy2)) this
       rw[<-ek2] at I4
       rw[zfM (X:=Y) (i:=at2) (j:=nb-1),ZR,zV]
       by_cases e5:(at2==1)=true
       ·rw[if_pos e5]
        have e5':=eq_of_beq e5
        refine kasC_pure (ZP _ _ _ _ _ _ ?_)
        rw[wz,wz,ZR,zV,zV]
        exact I4.zgs G e5' bot
       rw[if_neg e5]
       by_cases e8:(at2==0)=true
       ·rw[if_pos e8]
        have e8':=eq_of_beq e8
        refine kasC_pure (ZP _ _ _ _ _ _ ?_)
        rw[wz,wz,ZR,zV,zV]
        exact I4.zce G e8'
       rw[if_neg e8]
       have h5:1<at2:=by
        have z1:at2≠1:=fun z=>e5 (by rw[z];rfl)
        have z2:at2≠0:=fun z=>e8 (by rw[z];rfl)
        omega
       refine kasC_bind (xQ (yq hx2) ?_)
       have I5:=I4.X4 G (x:=x2) (by omega) hx2 (by omega) (by omega) fun y2 hy2=>by
        have:=j2 (at2-1) (by omega)
        rw[gy _ _ hy2] at this
        exact this
       rw[Rp]
       by_cases e6:(na-1==0)=true
       ·rw[if_pos e6]
        have e6':=eq_of_beq e6
        refine kasC_pure (ZP _ _ _ _ _ _ ?_)
        rw[wz,wz,ZR,zV,zV]
        exact I5.zcf G e6'
       rw[if_neg e6]
       have h6:0<na-1:=Nat.pos_of_ne_zero fun z=>e6 (by rw[z];rfl)
       exact yO (fun _=>kasC_pure (v7 _ (na-1) at2 _ _ I5 h6 (by omega) h5 (by omega) (by omega)).1) fun _=>kasC_pure (v7 _ (na-1) at2 _ _ I5 h6 (by omega) h5 (by omega) (by omega)).2
      ·rw[if_neg kq]
       have e22:at2=nb-1:=by omega
       have h5:1<nb-1:=by omega
       refine kasC_bind (xQ (yq hx2) ?_)
       have I5:=I3.X4 G (x:=x2) (by omega) hx2 (by omega) (by omega) fun y2 hy2=>by
        have:=j2 ((nb-1)-1) (by omega)
        rw[gy _ _ hy2] at this
        exact this
       rw[Rp]
       by_cases e6:(na-1==0)=true
       ·rw[if_pos e6]
        have e6':=eq_of_beq e6
        refine kasC_pure (ZP _ _ _ _ _ _ ?_)
        rw[wz,wz,ZR,zV,zV]
        exact I5.zcf G e6'
       rw[if_neg e6]
       have h6:0<na-1:=Nat.pos_of_ne_zero fun z=>e6 (by rw[z];rfl)
       exact yO (fun _=>kasC_pure (v7 _ (na-1) (nb-1) _ _ I5 h6 (by omega) h5 (by omega) (by omega)).1) fun _=>kasC_pure (v7 _ (na-1) (nb-1) _ _ I5 h6 (by omega) h5 (by omega) (by omega)).2
   ·dsimp only
    exact kasC_pure (ret _ _ _ _ _ _ h)
   ·dsimp only
    refine kasC_bind (kasC_modify ?_)
    show kasC _ _ _ _ _ (yV κ it l pend _) s
    exact kasC_pure (cont O2 na2 nb2 _ _ I2 a2 ax2 b2 bx2 (by omega))
 ·dsimp only
  exact kasC_pure (q arr g' h)
theorem zmA {P X Y S:List Nat}{pend:Array (Nat×Nat×Nat)}{i g pw pw2:Nat}{Q:Bool->SortSt->Shared->Prop}(hc:Mv prog w A κ it s lt N)(G:MG lt N X Y)(hx:0<X.length)(hy:0<Y.length)
  (p1:pend[i]?=some (P.length,X.length,pw))(p2:pend[i+1]?=some (P.length+X.length,Y.length,pw2))
  (q:∀M g',M.Perm (X++Y)->Up lt M->Q true (yV κ it (P++M++S) ((pend.setIfInBounds i (P.length,X.length+Y.length,pw)).eraseIdxIfInBounds (i+1)) g') s) :
  kasC (model prog w) A E (mergeAt' i) Q (yV κ it (P++X++Y++S) pend g) s:=by
 refine kasC_bind (kasC_get ?_)
 have gx:∀j,j<X.length->(P++X++Y++S)[P.length+j]?=some (X.getD j 0):=fun j hj=>by
  rw[List.append_assoc,List.append_assoc,List.getElem?_append_right (by omega),Nat.add_sub_cancel_left,zrZ hj,zrF,zrt hj]
  rfl
 have gy:∀j,j<Y.length->(P++X++Y++S)[P.length+X.length+j]?=some (Y.getD j 0):=fun j hj=>by
  rw[List.append_assoc,List.getElem?_append_right (by simp),zrA,Nat.add_sub_cancel_left,zrZ hj,zrF,zrt hj]
  rfl
 have xx:∀j,j<X.length->X[j]?=some (X.getD j 0):=fun j hj=>by rw[zrF,zrt hj];rfl
 have yy:∀j,j<Y.length->Y[j]?=some (Y.getD j 0):=fun j hj=>by rw[zrF,zrt hj];rfl
 have hxN:∀j,j<X.length->X.getD j 0<N:=fun j hj=>G.xN (xx j hj)
 have hyN:∀j,j<Y.length->Y.getD j 0<N:=fun j hj=>G.yN (yy j hj)
 have ed:P++X++Y++S=P++(X++Y)++S:=by simp
 have xk:∀k,k<=X.length->((P++X++Y++S).map (kas_item it)).toArray.extract (P.length+k) (P.length+X.length)=((X.drop k).map (kas_item it)).toArray:=fun k hk=>by
  refine zhK (P:=P++X.take k) (B:=X.drop k) (S:=Y++S) ?_ (by simp;omega) (by simp;omega)
  conv=>lhs;rw[<-List.take_append_drop k X]
  simp only[List.append_assoc]
 have yk:∀k,k<=Y.length->((P++X++Y++S).map (kas_item it)).toArray.extract (P.length+X.length) (P.length+X.length+k)=((Y.take k).map (kas_item it)).toArray:=fun k hk=>by
  refine zhK (P:=P++X) (B:=Y.take k) (S:=Y.drop k++S) ?_ (by simp) (by simp;omega)
  conv=>lhs;rw[<-List.take_append_drop k Y]
  simp only[List.append_assoc]
 have putK:∀k m (M:List Nat),k<=X.length->m<=Y.length->M.length=(X.length-k)+m->((M.map (kas_item it)).toArray.toList.zipIdx).foldl (fun(a:Array Keyed) (pj:Keyed×Nat)=>a.setIfInBounds (P.length+k+pj.2) pj.1) ((P++X++Y++S).map (kas_item it)).toArray=((P++(X.take k++M++Y.drop m)++S).map (kas_item it)).toArray:=fun k m M hk hm hM=>by
  have e:=zhJ (M.map (kas_item it)) ((P++X.take k).map (kas_item it)) ((X.drop k++Y.take m).map (kas_item it)) ((Y.drop m++S).map (kas_item it)) 0 (by simp;omega)
  rcases e with e | e
  ·have e1:(P++X++Y++S).map (kas_item it)=(P++X.take k).map (kas_item it)++(X.drop k++Y.take m).map (kas_item it)++(Y.drop m++S).map (kas_item it):=by
    rw[<-zrG,<-zrG]
    congr 1
    conv=>lhs;rw[<-List.take_append_drop k X,<-List.take_append_drop m Y]
    simp only[List.append_assoc]
   have e2:(P++(X.take k++M++Y.drop m)++S).map (kas_item it)=(P++X.take k).map (kas_item it)++M.map (kas_item it)++(Y.drop m++S).map (kas_item it):=by
    rw[<-zrG,<-zrG]
    congr 1
    simp only[List.append_assoc]
   rw[e1,e2,<-e]
   simp[Nat.min_eq_left hk]
  ·omega
 generalize hl:P++X++Y++S=l at gx gy xk yk putK
 rw[show(sortPriv% PySem.Builtin.SortState.pending) (yV κ it l pend g)=pend from rfl,show(sortPriv% PySem.Builtin.SortState.a) (yV κ it l pend g)=(l.map (kas_item it)).toArray from rfl,p1,p2]
 dsimp only
 refine kasC_bind (zhI ?_)
 show kasC _ _ _ _ _ (yV κ it l ((pend.setIfInBounds i (P.length,X.length+Y.length,pw)).eraseIdxIfInBounds (i+1)) g) s
 generalize (pend.setIfInBounds i (P.length,X.length+Y.length,pw)).eraseIdxIfInBounds (i+1)=pend' at q
 refine kasC_bind (xQ (yq (gy 0 hy)) ?_)
 refine kasC_bind (Kd (left:=false) (y:=fun j=>X.getD j 0) G.T hc rfl (hyN 0 hy) gx hxN (fun j hj=>G.ne (xx j hj) (yy 0 hy)) (fun a b hab hb=>Zq G.ux (xx a (by omega)) (xx b hb) hab) hx fun k k1 k2 k3=>?_)
 dsimp only
 by_cases e1:(X.length-k==0)=true
 ·rw[if_pos e1]
  have e1':=eq_of_beq e1
  refine kasC_pure ?_
  have:=q (X++Y) g (List.Perm.refl _) (List.pairwise_append.mpr ⟨G.ux,G.uy,fun a ha b hb=>?_⟩)
  ·rw[show P++(X++Y)++S=l by rw[<-hl];simp] at this
   exact this
  ·obtain⟨j,hj⟩:=List.getElem?_of_mem ha
   have jl:=(zrv.mp hj).1
   have lj:=k2 j (by omega)
   have ej:X.getD j 0=a:=by rw[zrF,hj];rfl
   rw[ej] at lj
   obtain⟨j2,hj2⟩:=List.getElem?_of_mem hb
   by_cases z:j2=0
   ·subst z
    have:Y.getD 0 0=b:=by rw[zrF,hj2];rfl
    rw[<-this]
    exact lj
   ·exact G.T.tr (G.xN hj) (hyN 0 hy) (G.yN hj2) lj (Zq G.uy (yy 0 hy) hj2 (by omega))
 rw[if_neg e1]
 have hk:k<X.length:=by
  have:X.length-k≠0:=fun z=>e1 (by rw[z];rfl)
  omega
 refine kasC_bind (xQ (yq (x:=X.getD (X.length-1) 0) (by rw[show P.length+k+(X.length-k)-1=P.length+(X.length-1) by omega];exact gx _ (by omega))) ?_)
 refine kasC_bind (Kd (left:=true) (y:=fun j=>Y.getD j 0) G.T hc rfl (hxN (X.length-1) (by omega)) gy hyN (fun j hj=>Ne.symm (G.ne (xx (X.length-1) (by omega)) (yy j hj))) (fun a b hab hb=>Zq G.uy (yy a (by omega)) (yy b hb) hab) (by omega) fun m m1 m2 m3=>?_)
 dsimp only
 by_cases e2:(m==0)=true
 ·rw[if_pos e2]
  exact absurd (show k<X.length from hk) (by
   have e2':=eq_of_beq e2
   subst e2'
   have a1:=m3 0 (zrI _) hy
   have a2:=k3 (X.length-1) (by omega) (by omega)
   have a3:=G.T.ne (hxN (X.length-1) (by omega)) (hyN 0 hy) (G.ne (xx (X.length-1) (by omega)) (yy 0 hy)) a2
   rw[a3] at a1
   cases a1)
 rw[if_neg e2]
 have hm:0<m:=Nat.pos_of_ne_zero fun z=>e2 (by rw[z];rfl)
 rw[xk k (by omega),yk m m1]
 have X2:(X.drop k).length=X.length-k:=List.length_drop
 have Y2:(Y.take m).length=m:=by rw[zrQ];omega
 have G2:MG lt N (X.drop k) (Y.take m):=⟨G.T,Pk G.ux k,SM G.uy m,G.nd.sublist (List.Sublist.append (List.drop_sublist _ _) (List.take_sublist _ _)),fun z hz=>G.hN z (by
  rcases List.mem_append.mp hz with q | q
  ·exact List.mem_append_left _ (List.mem_of_mem_drop q)
  ·exact zrJ _ (List.mem_of_mem_take q))⟩
 have hx0:(X.drop k)[0]?=some (X.getD k 0):=by rw[List.getElem?_drop];exact xx k hk
 have hy0:(Y.take m)[0]?=some (Y.getD 0 0):=by rw[List.getElem?_take_of_lt hm];exact yy 0 hy
 have hxl:(X.drop k)[(X.drop k).length-1]?=some (X.getD (X.length-1) 0):=by
  rw[X2,List.getElem?_drop,show k+(X.length-k-1)=X.length-1 by omega]
  exact xx _ (by omega)
 have h0:lt (Y.getD 0 0) (X.getD k 0)=true:=G.T.ne (hxN k hk) (hyN 0 hy) (G.ne (xx k hk) (yy 0 hy)) (k3 k (zrI _) hk)
 have top:∀y∈Y.take m,lt y (X.getD (X.length-1) 0)=true:=fun y hy'=>by
  obtain⟨j,hj,ej⟩:=vo hy'
  have:=m2 j hj
  rw[show Y.getD j 0=y by rw[zrF,ej];rfl] at this
  exact this
 have bot:∀y x,(Y.take m)[0]?=some y->x∈X.drop k->lt y x=true:=fun y x h1 h2=>by
  rw[hy0] at h1
  cases h1
  exact G2.below (fun z hz=>G.hN z (List.mem_append_left _ hz)) G.ux (hyN 0 hy) (fun w hw=>by rw[xx k hk] at hw;cases hw;exact h0) h2
 have fin:∀arr g',U9 lt it (X.drop k) (Y.take m) arr->kasC (model prog w) A E (do
   modify fun s=>SortSt.mk' (kindOf s) (arr.toList.zipIdx.foldl (fun a x=>a.setIfInBounds (P.length+k+x.snd) x.fst) (arrOf s)) (pendingOf s) (gallopOf s) (failedOf s)
   let z <-get
   pure (failedOf z).isNone) Q (yV κ it l pend' g') s:=fun arr g' h=>by
  obtain⟨M,rfl,pM,uM⟩:=h
  refine kasC_bind (kasC_modify (kasC_bind (kasC_get (kasC_pure ?_))))
  have lM:M.length=(X.length-k)+m:=by rw[pM.length_eq,zrA,X2,Y2]
  have e:=putK k m M (by omega) m1 lM
  have eS:SortSt.mk' (kindOf (yV κ it l pend' g')) (((M.map (kas_item it)).toArray.toList.zipIdx).foldl (fun(a:Array Keyed) (x:Keyed×Nat)=>a.setIfInBounds (P.length+k+x.snd) x.fst) (arrOf (yV κ it l pend' g'))) (pendingOf (yV κ it l pend' g')) (gallopOf (yV κ it l pend' g')) (failedOf (yV κ it l pend' g'))=yV κ it (P++(X.take k++M++Y.drop m)++S) pend' g':=by
   show SortSt.mk' κ (((M.map (kas_item it)).toArray.toList.zipIdx).foldl (fun(a:Array Keyed) (x:Keyed×Nat)=>a.setIfInBounds (P.length+k+x.snd) x.fst) (l.map (kas_item it)).toArray) pend' g' none=SortSt.mk' κ ((P++(X.take k++M++Y.drop m)++S).map (kas_item it)).toArray pend' g' none
   rw[e]
  rw[eS]
  refine q (X.take k++M++Y.drop m) g' ?_ ?_
  ·have e1:(X.take k++M++Y.drop m).Perm (X.take k++(X.drop k++Y.take m)++Y.drop m):=(pM.append_left _).append_right _
   have e2:X.take k++(X.drop k++Y.take m)++Y.drop m=X++Y:=by
    conv=>rhs;rw[<-List.take_append_drop k X,<-List.take_append_drop m Y]
    simp only[List.append_assoc]
   rw[e2] at e1
   exact e1
  ·have inM:∀z∈M,z∈X.drop k\/z∈Y.take m:=fun z hz=>List.mem_append.mp (pM.mem_iff.mp hz)
   have zmB:∀a∈X.take k,∀b∈Y,lt a b=true:=fun a ha b hb=>by
    obtain⟨j,hj,ej⟩:=vo ha
    have lj:=k2 j hj
    rw[show X.getD j 0=a by rw[zrF,ej];rfl] at lj
    obtain⟨j2,hj2⟩:=List.getElem?_of_mem hb
    by_cases z:j2=0
    ·subst z
     rw[show b=Y.getD 0 0 by rw[zrF,hj2];rfl]
     exact lj
    ·exact G.T.tr (G.xN ej) (hyN 0 hy) (G.yN hj2) lj (Zq G.uy (yy 0 hy) hj2 (by omega))
   have hiY:∀a∈X,∀b∈Y.drop m,lt a b=true:=fun a ha b hb=>by
    obtain⟨j,hj,ej⟩:=tZ hb
    have jl:=(zrv.mp ej).1
    have lj:=m3 j hj jl
    rw[show Y.getD j 0=b by rw[zrF,ej];rfl] at lj
    have l2:=G.T.ne (G.yN ej) (hxN (X.length-1) (by omega)) (Ne.symm (G.ne (xx (X.length-1) (by omega)) ej)) lj
    obtain⟨j2,hj2⟩:=List.getElem?_of_mem ha
    have jl2:=(zrv.mp hj2).1
    by_cases z:j2=X.length-1
    ·rw[show a=X.getD (X.length-1) 0 by rw[zrF,<-z,hj2];rfl]
     exact l2
    ·exact G.T.tr (G.xN hj2) (hxN _ (by omega)) (G.yN ej) (Zq G.ux hj2 (xx (X.length-1) (by omega)) (by omega)) l2
   refine List.pairwise_append.mpr ⟨List.pairwise_append.mpr ⟨SM G.ux k,uM,fun a ha b hb=>?_⟩,Pk G.uy m,fun a ha b hb=>?_⟩
   ·rcases inM b hb with z | z
    ·obtain⟨j,hj,ej⟩:=vo ha
     obtain⟨j2,hj2,ej2⟩:=tZ z
     exact Zq G.ux ej ej2 (by omega)
    ·exact zmB a ha b (List.mem_of_mem_take z)
   ·rcases List.mem_append.mp ha with z | z
    ·exact zmB a z b (List.mem_of_mem_drop hb)
    ·rcases inM a z with z | z
     ·exact hiY a (List.mem_of_mem_drop z) b hb
     ·obtain⟨j,hj,ej⟩:=vo z
      obtain⟨j2,hj2,ej2⟩:=tZ hb
      exact Zq G.uy ej ej2 (by omega)
 refine yO (fun _=>?_) (fun _=>?_)
 ·exact kasC_bind (zmx hc G2 hx0 hy0 h0 hxl top fun arr g' h=>fin arr g' h)
 ·exact kasC_bind (zmz hc G2 hxl hy0 top bot fun arr g' h=>fin arr g' h)
end
def toP:Nat->List (List Nat×Nat)->List (Nat×Nat×Nat)
 | _,[]=>[]
 | o,e::E=>(o,e.1.length,e.2)::toP (o+e.1.length) E
def flt (E:List (List Nat×Nat)):List Nat:=(E.map (·.1)).flatten
theorem vB (E F:List (List Nat×Nat)):flt (E++F)=flt E++flt F:=by unfold flt;rw[zrG,List.flatten_append]
theorem Zr (e:List Nat×Nat)(F:List (List Nat×Nat)):flt (e::F)=e.1++flt F:=rfl
theorem YQ:∀(E F:List (List Nat×Nat)) (o:Nat),toP o (E++F)=toP o E++toP (o+(flt E).length) F
 | [],F,o=>by simp[toP,flt]
 | e::E,F,o=>by
  show(o,e.1.length,e.2)::toP (o+e.1.length) (E++F)=(o,e.1.length,e.2)::(toP (o+e.1.length) E++toP (o+(flt (e::E)).length) F)
  rw[YQ E F,Zr,zrA,Nat.add_assoc]
theorem Pq:∀(E:List (List Nat×Nat)) (o:Nat),(toP o E).length=E.length
 | [],_=>rfl
 | e::E,o=>by show(toP _ E).length+1=E.length+1;rw[Pq E]
structure SI (lt:Nat->Nat->Bool)(l0:List Nat)(E:List (List Nat×Nat))(rest:List Nat):Prop where
 pm:(flt E++rest).Perm l0
 up:∀e∈E,Up lt e.1/\0<e.1.length
theorem zjk {α:Type}(A B:List α)(x y v:α):((A++x::y::B).set A.length v).eraseIdx (A.length+1)=A++v::B:=by
 induction A with
 | nil=>rfl
 | cons a A ih=>simpa using ih
section
variable {prog:Program}{w:World}{A:Around}{E:Value->Shared->Prop}{κ:SortKind}{it:Array Keyed}{s:Shared}
variable {lt:Nat->Nat->Bool}{N:Nat}
theorem zeM {l0 rest:List Nat}{R:List (List Nat×Nat)}{i g:Nat}{Q:Bool->SortSt->Shared->Prop}(T:Tot lt N)(hc:Mv prog w A κ it s lt N)(hN:∀x∈l0,x<N)(nd:l0.Nodup)(I:SI lt l0 R rest)(hi:i+1<R.length)
  (q:∀R' g',SI lt l0 R' rest->R'.length+1=R.length->(flt R').length=(flt R).length->Q true (yV κ it (flt R'++rest) (toP 0 R').toArray g') s) :
  kasC (model prog w) A E (mergeAt' i) Q (yV κ it (flt R++rest) (toP 0 R).toArray g) s:=by
 obtain⟨x,hx⟩:∃x,R[i]?=some x:=⟨_,zrt (by omega)⟩
 obtain⟨y,hy⟩:∃y,R[i+1]?=some y:=⟨_,zrt hi⟩
 have eR:R=R.take i++x::y::R.drop (i+2):=by
  have h1:i<R.length:=by omega
  have e1:=List.take_append_drop i R
  rw[List.drop_eq_getElem_cons h1,List.drop_eq_getElem_cons hi] at e1
  rw[zrt h1] at hx
  rw[zrt hi] at hy
  rw[zrX hx,zrX hy] at e1
  exact e1.symm
 have li:(R.take i).length=i:=by rw[zrQ];omega
 generalize R.take i=R1 at eR li
 generalize R.drop (i+2)=R2 at eR
 subst eR
 obtain⟨X,pw⟩:=x
 obtain⟨Y,pw2⟩:=y
 have ux:=I.up (X,pw) (by simp)
 have uy:=I.up (Y,pw2) (by simp)
 have ef:flt (R1++(X,pw)::(Y,pw2)::R2)++rest=flt R1++X++Y++(flt R2++rest):=by
  rw[vB,Zr,Zr]
  simp only[List.append_assoc]
 have et:toP 0 (R1++(X,pw)::(Y,pw2)::R2)=toP 0 R1++((flt R1).length,X.length,pw)::((flt R1).length+X.length,Y.length,pw2)::toP ((flt R1).length+X.length+Y.length) R2:=by
  rw[YQ,Nat.zero_add]
  rfl
 have lP:=Pq R1 0
 have sub:List.Sublist (X++Y) (flt (R1++(X,pw)::(Y,pw2)::R2)++rest):=by
  rw[ef,List.append_assoc (flt R1++X),List.append_assoc (flt R1)]
  refine List.Sublist.trans ?_ (List.sublist_append_right _ _)
  rw[<-List.append_assoc]
  exact List.sublist_append_left _ _
 have G:MG lt N X Y:=⟨T,ux.1,uy.1,(I.pm.nodup_iff.mpr nd).sublist sub,fun z hz=>hN z (I.pm.mem_iff.mp (sub.subset hz))⟩
 rw[ef,et]
 refine zmA (P:=flt R1) (S:=flt R2++rest) (pw:=pw) (pw2:=pw2) hc G ux.2 uy.2 ?_ ?_ (fun M g' pM uM=>?_)
 ·rw[List.getElem?_toArray,List.getElem?_append_right (by omega),show i-(toP 0 R1).length=0 by omega]
  rfl
 ·rw[List.getElem?_toArray,List.getElem?_append_right (by omega),show i+1-(toP 0 R1).length=1 by omega]
  rfl
 ·have lM:=pM.length_eq
  rw[zrA] at lM
  have:=q (R1++(M,pw)::R2) g' ⟨?_,?_⟩ (by simp;omega) ?_
  ·have e1:flt (R1++(M,pw)::R2)++rest=flt R1++M++(flt R2++rest):=by
    rw[vB,Zr]
    simp only[List.append_assoc]
   have e2:toP 0 (R1++(M,pw)::R2)=toP 0 R1++((flt R1).length,X.length+Y.length,pw)::toP ((flt R1).length+X.length+Y.length) R2:=by
    rw[YQ,Nat.zero_add]
    show _++((flt R1).length,M.length,pw)::toP ((flt R1).length+M.length) R2=_
    rw[lM,Nat.add_assoc]
   rw[e1,e2,<-zjk (toP 0 R1) _ ((flt R1).length,X.length,pw) ((flt R1).length+X.length,Y.length,pw2)] at this
   rw[show(toP 0 R1).length=i by omega] at this
   have e3:((toP 0 R1++((flt R1).length,X.length,pw)::((flt R1).length+X.length,Y.length,pw2)::toP ((flt R1).length+X.length+Y.length) R2).toArray.setIfInBounds i ((flt R1).length,X.length+Y.length,pw)).eraseIdxIfInBounds (i+1)=(((toP 0 R1++((flt R1).length,X.length,pw)::((flt R1).length+X.length,Y.length,pw2)::toP ((flt R1).length+X.length+Y.length) R2).set i ((flt R1).length,X.length+Y.length,pw)).eraseIdx (i+1)).toArray:=by
    simp
   rw[e3]
   exact this
  ·refine List.Perm.trans ?_ I.pm
   rw[ef,vB,Zr]
   have e1:flt R1++(M++flt R2)++rest=flt R1++M++(flt R2++rest):=by simp only[List.append_assoc]
   have e2:flt R1++X++Y++(flt R2++rest)=flt R1++(X++Y)++(flt R2++rest):=by simp only[List.append_assoc]
   rw[e1,e2]
   exact(pM.append_left _).append_right _
  ·intro e he
   rcases List.mem_append.mp he with z | z
   ·exact I.up e (List.mem_append_left _ z)
   ·rcases List.mem_cons.mp z with z | z
    ·rw[z]
     exact⟨uM,by show 0<M.length;have:=ux.2;simp only at this;omega⟩
    ·exact I.up e (zrJ _ (zrD _ (zrD _ z)))
  ·rw[vB,vB,Zr,Zr,Zr]
   simp only[zrA]
   omega
theorem zk7 {c:Prop}[Decidable c]{a b:Nat}:(if c then a else b)=a\/(if c then a else b)=b:=by
 by_cases h:c
 ·exact .inl (if_pos h)
 ·exact .inr (if_neg h)
theorem zdy {α:Type}(A:List α)(x:α)(f:α->α):(A++[x]).toArray.modify ((A++[x]).toArray.size-1) f=(A++[f x]).toArray:=by
 apply Array.ext'
 apply List.ext_getElem?
 intro k
 rw[Array.getElem?_toList,Array.getElem?_modify]
 simp only[zrC,zrA,zr0,Nat.add_sub_cancel,List.getElem?_toArray]
 by_cases h:A.length=k
 ·subst h
  rw[if_pos rfl]
  simp
 ·rw[if_neg h]
  by_cases h2:k<A.length
  ·rw[zrZ h2,zrZ h2]
  ·rw[zr2 (by simp;omega),zr2 (by simp;omega)]
theorem zmC {n:Nat}{Q:Unit->SortSt->Shared->Prop}(T:Tot lt n)(hc:Mv prog w A κ it s lt n)(q:∀(l':List Nat) st',l'.Perm (List.range n)->Up lt l'->arrOf st'=(l'.map (kas_item it)).toArray->failedOf st'=none->Q () st' s) :
  kasC (model prog w) A E sortRuns' Q (yV κ it (List.range n) #[] 7) s:=by
 obtain⟨l0,hl0⟩:∃l0,l0=List.range n:=⟨_,rfl⟩
 have nd:l0.Nodup:=by rw[hl0];exact List.nodup_range
 have hN:∀x∈l0,x<n:=fun x hx=>by rw[hl0] at hx;exact List.mem_range.mp hx
 have len0:l0.length=n:=by rw[hl0];exact zrK
 rw[sortRuns'_eq]
 refine kasC_bind (kasC_get ?_)
 have hsz:(arrOf (yV κ it (List.range n) #[] 7)).size=n:=by
  show(((List.range n).map (kas_item it)).toArray).size=_
  simp
 simp only[hsz]
 generalize minRun' n n 0=mr
 refine kasC_bind (kasC_range ?_)
 have main:∀{P:Option Unit×Nat->SortSt->Shared->Prop} {body:Nat->Option Unit×Nat->StateT SortSt Sem (ForInStep (Option Unit×Nat))},
   (∀R g,SI lt l0 R []->P (none,(flt R).length) (yV κ it (flt R++[]) (toP 0 R).toArray g) s) ->
   (∀z R rest g (R'':ForInStep (Option Unit×Nat)->SortSt->Shared->Prop),SI lt l0 R rest->(rest=[]->R'' (.done (none,(flt R).length)) (yV κ it (flt R++rest) (toP 0 R).toArray g) s) ->
    (∀R2 zdz g2,SI lt l0 R2 zdz->zdz.length<rest.length->R'' (.yield (none,(flt R2).length)) (yV κ it (flt R2++zdz) (toP 0 R2).toArray g2) s) ->
    kasC (model prog w) A E (body z (none,(flt R).length)) R'' (yV κ it (flt R++rest) (toP 0 R).toArray g) s) ->
   ∀(f:Nat) (ls:List Nat) R rest g,ls.length=f->SI lt l0 R rest->rest.length<=f->kasC (model prog w) A E (forIn ls (none,(flt R).length) body) P (yV κ it (flt R++rest) (toP 0 R).toArray g) s:=by
  intro P body hP hb f
  induction f with
  | zero =>
   intro ls R rest g hl I hr
   obtain rfl:rest=[]:=List.length_eq_zero_iff.mp (by omega)
   cases ls with
   | nil=>exact kasC_nil (hP R g I)
   | cons _ _=>simp at hl
  | succ f ih =>
   intro ls R rest g hl I hr
   cases ls with
   | nil=>simp at hl
   | cons z ls =>
    refine kasC_cons (hb z R rest g _ I (fun e=>?_) fun R2 zdz g2 I2 h2=>ih ls R2 zdz g2 (by simpa using hl) I2 (by omega))
    subst e
    exact hP R g I
 have inn:∀{S2:List Nat} {P:Option Unit×Unit->SortSt->Shared->Prop} {body:Nat->Option Unit×Unit->StateT SortSt Sem (ForInStep (Option Unit×Unit))} (f:Nat) (ls:List Nat) R g,ls.length=f->SI lt l0 R S2->R≠[] ->
   (∀R2 g2,SI lt l0 R2 S2->R2≠[]->(flt R2).length=(flt R).length->P (none,()) (yV κ it (flt R2++S2) (toP 0 R2).toArray g2) s) ->
   (∀z R2 g2 (R3:ForInStep (Option Unit×Unit)->SortSt->Shared->Prop),SI lt l0 R2 S2->R2≠[]->R3 (.done (none,())) (yV κ it (flt R2++S2) (toP 0 R2).toArray g2) s ->
    (∀R5 g5,SI lt l0 R5 S2->R5≠[]->(flt R5).length=(flt R2).length->R3 (.yield (none,())) (yV κ it (flt R5++S2) (toP 0 R5).toArray g5) s) ->
    kasC (model prog w) A E (body z (none,())) R3 (yV κ it (flt R2++S2) (toP 0 R2).toArray g2) s) ->
   kasC (model prog w) A E (forIn ls (none,()) body) P (yV κ it (flt R++S2) (toP 0 R).toArray g) s:=by
  intro S2 P body f
  induction f with
  | zero =>
   intro ls R g hl I ne hP hb
   cases ls with
   | nil=>exact kasC_nil (hP R g I ne rfl)
   | cons _ _=>simp at hl
  | succ f ih =>
   intro ls R g hl I ne hP hb
   cases ls with
   | nil=>simp at hl
   | cons z ls=>exact kasC_cons (hb z R g _ I ne (hP R g I ne rfl) fun R5 g5 I5 ne5 e5=>ih ls R5 g5 (by simpa using hl) I5 ne5 (fun R2 g2 a b c=>hP R2 g2 a b (by omega)) hb)
 have I0:SI lt l0 [] l0:=⟨List.Perm.refl _,fun e h=>by cases h⟩
 rw[<-hl0]
 refine main (fun R g I=>?_) (fun z R rest g R'' I fin cont=>?_) n _ [] l0 7 (by rw[List.length_range'];omega) I0 (by omega)
 ·dsimp only
  refine kasC_bind (kasC_range ?_)
  have last:∀{P:Option Unit×Unit->SortSt->Shared->Prop} {body:Nat->Option Unit×Unit->StateT SortSt Sem (ForInStep (Option Unit×Unit))} (f:Nat) (ls:List Nat) R g,ls.length=f->SI lt l0 R []->R.length<=f+1 ->
    (∀R2 g2,SI lt l0 R2 []->R2.length<=1->P (none,()) (yV κ it (flt R2++[]) (toP 0 R2).toArray g2) s) ->
    (∀z R2 g2 (R3:ForInStep (Option Unit×Unit)->SortSt->Shared->Prop),SI lt l0 R2 []->(R2.length<=1->R3 (.done (none,())) (yV κ it (flt R2++[]) (toP 0 R2).toArray g2) s) ->
     (∀R5 g5,SI lt l0 R5 []->R5.length<R2.length->R3 (.yield (none,())) (yV κ it (flt R5++[]) (toP 0 R5).toArray g5) s) ->
     kasC (model prog w) A E (body z (none,())) R3 (yV κ it (flt R2++[]) (toP 0 R2).toArray g2) s) ->
    kasC (model prog w) A E (forIn ls (none,()) body) P (yV κ it (flt R++[]) (toP 0 R).toArray g) s:=by
   intro P body f
   induction f with
   | zero =>
    intro ls R g hl I h1 hP hb
    cases ls with
    | nil=>exact kasC_nil (hP R g I h1)
    | cons _ _=>simp at hl
   | succ f ih =>
    intro ls R g hl I h1 hP hb
    cases ls with
    | nil=>simp at hl
    | cons z ls=>exact kasC_cons (hb z R g _ I (fun h=>hP R g I h) fun R5 g5 I5 l5=>ih ls R5 g5 (by simpa using hl) I5 (by omega) hP hb)
  have zqc:R.length<=n:=by
   have h1:(flt R).length=n:=by have:=I.pm.length_eq;rw[List.append_nil,len0] at this;exact this
   have h2:∀(E:List (List Nat×Nat)),(∀e∈E,0<e.1.length)->E.length<=(flt E).length:=fun E=>by
    induction E with
    | nil=>exact fun _=>zrI _
    | cons e E ih =>
     intro h
     have a:=ih fun e' he=>h e' (zrD _ he)
     have b:=h e zrM
     rw[Zr,zrA,zrE]
     omega
   have:=h2 R fun e he=>(I.up e he).2
   omega
  refine last n _ R g (by rw[List.length_range'];omega) I (by omega) (fun R2 g2 J h1=>?_) (fun z R2 g2 R3 J ext zhQ=>?_)
  ·dsimp only
   refine kasC_pure (q (flt R2) _ (by have:=J.pm;rw[List.append_nil,hl0] at this;exact this) ?_ (by rw[List.append_nil];rfl) rfl)
   match R2,h1,J with
   | [],_,_=>exact .nil
   | [e],_,J =>
    have:=(J.up e zrM).1
    show Up lt (e.1++[])
    rw[List.append_nil]
    exact this
  ·have sz:(pendingOf (yV κ it (flt R2++[]) (toP 0 R2).toArray g2)).size=R2.length:=by
    show(toP 0 R2).toArray.size=_
    rw[zrC,Pq]
   refine kasC_bind (kasC_get ?_)
   rw[sz]
   refine yO (fun h=>kasC_pure (ext h)) (fun h=>?_)
   generalize hii:(if Option.any _ _=true then R2.length-2-1 else R2.length-2)=ii
   have h0:ii=R2.length-2-1\/ii=R2.length-2:=by rw[<-hii];exact zk7
   have hi2:ii+1<R2.length:=by omega
   refine kasC_bind (zeM T hc hN nd J hi2 fun R5 g5 J5 l5 e5=>?_)
   simp only[Bool.not_true,Bool.false_eq_true,if_false]
   exact kasC_pure (zhQ R5 g5 J5 (by omega))
 ·dsimp only
  have lr:(flt R).length+rest.length=n:=by have:=I.pm.length_eq;rw[zrA,len0] at this;exact this
  by_cases hge:(flt R).length >= n
  ·rw[if_pos hge]
   exact kasC_pure (fin (List.length_eq_zero_iff.mp (by omega)))
  rw[if_neg hge]
  have sub:List.Sublist rest (flt R++rest):=List.sublist_append_right _ _
  have hNr:∀x∈rest,x<n:=fun x hx=>hN x (I.pm.mem_iff.mp (sub.subset hx))
  have ndr:rest.Nodup:=(I.pm.nodup_iff.mpr nd).sublist sub
  refine kasC_bind (zji T hc rfl (by omega) (by omega) hNr ndr fun m S1 m1 m2 pS1 uS1=>?_)
  have l1:=pS1.length_eq
  dsimp only
  refine yO (fun hmr=>?_) (fun hmr=>?_)
  ·refine kasC_bind (kasC_lift (wpAny_rule ?_))
   refine kasC_bind (zk5 T hc rfl m1 (by omega) (by omega) (fun x hx=>hNr x (pS1.mem_iff.mp hx)) (pS1.nodup_iff.mpr ndr) uS1 fun S2 pS2' uS2=>?_)
   simp only[Bool.not_true,Bool.false_eq_true,if_false]
   have pS2:=pS2'.trans pS1
   have l2:=pS2.length_eq
   have I2:SI lt l0 R S2:=⟨(pS2.append_left _).trans I.pm,I.up⟩
   refine kasC_bind (kasC_get ?_)
   have push:∀R2 g2,SI lt l0 R2 S2->(flt R2).length=(flt R).length->R'' (.yield (none,(flt R).length+(min (n-(flt R).length) mr))) (yV κ it (flt R2++S2) ((toP 0 R2).toArray.push ((flt R).length,(min (n-(flt R).length) mr),0)) g2) s:=fun R2 g2 J eJ=>by
    have e1:flt (R2++[(S2.take (min (n-(flt R).length) mr),0)])++S2.drop (min (n-(flt R).length) mr)=flt R2++S2:=by
     rw[vB,List.append_assoc]
     congr 1
     show S2.take (min (n-(flt R).length) mr)++[]++S2.drop (min (n-(flt R).length) mr)=S2
     rw[List.append_nil,List.take_append_drop]
    have lc:(S2.take (min (n-(flt R).length) mr)).length=(min (n-(flt R).length) mr):=by rw[zrQ];omega
    have e2:toP 0 (R2++[(S2.take (min (n-(flt R).length) mr),0)])=toP 0 R2++[((flt R).length,(min (n-(flt R).length) mr),0)]:=by
     rw[YQ,Nat.zero_add,eJ]
     show _++[((flt R).length,(S2.take (min (n-(flt R).length) mr)).length,0)]=_
     rw[lc]
    have e3:(flt (R2++[(S2.take (min (n-(flt R).length) mr),0)])).length=(flt R).length+(min (n-(flt R).length) mr):=by
     rw[vB,zrA,eJ]
     show(flt R).length+(S2.take (min (n-(flt R).length) mr)++[]).length=_
     rw[List.append_nil,lc]
    have z:=cont (R2++[(S2.take (min (n-(flt R).length) mr),0)]) (S2.drop (min (n-(flt R).length) mr)) g2 ⟨by rw[e1];exact J.pm,fun e he=>by
     rcases List.mem_append.mp he with q | q
     ·exact J.up e q
     ·rw[List.mem_singleton.mp q]
      exact⟨uS2,by show 0<(S2.take (min (n-(flt R).length) mr)).length;omega⟩⟩ (by rw[List.length_drop];omega)
    rw[e1,e2,e3] at z
    have e4:(toP 0 R2++[((flt R).length,(min (n-(flt R).length) mr),0)]).toArray=(toP 0 R2).toArray.push ((flt R).length,(min (n-(flt R).length) mr),0):=by simp
    rw[e4] at z
    exact z
   cases hb:(toP 0 R).toArray.back? with
   | none =>
    rw[show(pendingOf (yV κ it (flt R++S2) (toP 0 R).toArray g)).back?=none from hb]
    dsimp only
    refine kasC_bind (kasC_modify (kasC_pure ?_))
    exact push R g I2 rfl
   | some bb =>
    rw[show(pendingOf (yV κ it (flt R++S2) (toP 0 R).toArray g)).back?=some bb from hb]
    obtain⟨s1,n1,p1⟩:=bb
    dsimp only
    have Rne:R≠[]:=fun z=>by rw[z] at hb;simp[toP] at hb
    refine kasC_bind (kasC_range ?_)
    refine inn _ _ R g rfl I2 Rne (fun R2 g2 J ne eJ=>?_) (fun z R2 g2 R3 J ne ext zhQ=>?_)
    ·dsimp only
     refine kasC_bind (kasC_modify ?_)
     refine kasC_bind (kasC_modify (kasC_pure ?_))
     obtain⟨R4,e,rfl⟩:∃R4 e,R2=R4++[e]:=⟨R2.dropLast,R2.getLast ne,(List.dropLast_concat_getLast ne).symm⟩
     have J2:∀pw,SI lt l0 (R4++[(e.1,pw)]) S2:=fun pw=>⟨by
      have:=J.pm
      rw[vB] at this ⊢
      exact this,fun e' he=>by
      rcases List.mem_append.mp he with q | q
      ·exact J.up e' (List.mem_append_left _ q)
      ·rw[List.mem_singleton.mp q]
       exact J.up e (zrJ _ zrM)⟩
     have ef:∀pw,flt (R4++[(e.1,pw)])=flt (R4++[e]):=fun pw=>by rw[vB,vB];rfl
     refine cast ?_ (push (R4++[(e.1,power' n (2*s1+n1) (2*s1+n1+n1+(min (n-(flt R).length) mr)) n)]) g2 (J2 _) (by rw[ef];exact eJ))
     congr 1
     show SortSt.mk' κ ((flt (R4++[(e.1,_)])++S2).map (kas_item it)).toArray ((toP 0 (R4++[(e.1,_)])).toArray.push _) g2 none=SortSt.mk' κ ((flt (R4++[e])++S2).map (kas_item it)).toArray (((toP 0 (R4++[e])).toArray.modify ((toP 0 (R4++[e])).toArray.size-1) _).push _) g2 none
     rw[ef]
     congr 2
     rw[YQ,YQ]
     exact(zdy (toP 0 R4) (0+(flt R4).length,e.1.length,e.2) (fun x=>(x.1,x.2.1,power' n (2*s1+n1) (2*s1+n1+n1+min (n-(flt R).length) mr) n))).symm
    ·refine kasC_bind (kasC_get ?_)
     cases ho:(if (pendingOf (yV κ it (flt R2++S2) (toP 0 R2).toArray g2)).size > 1 then (pendingOf (yV κ it (flt R2++S2) (toP 0 R2).toArray g2))[(pendingOf (yV κ it (flt R2++S2) (toP 0 R2).toArray g2)).size-2]? else none) with
     | none =>
      dsimp only
      exact kasC_pure ext
     | some ov =>
      obtain⟨_,_,older⟩:=ov
      dsimp only
      refine yO (fun _=>kasC_pure ext) (fun _=>?_)
      have sz:(pendingOf (yV κ it (flt R2++S2) (toP 0 R2).toArray g2)).size=R2.length:=by
       show(toP 0 R2).toArray.size=_
       rw[zrC,Pq]
      have h2:1<R2.length:=by
       by_cases hh:(pendingOf (yV κ it (flt R2++S2) (toP 0 R2).toArray g2)).size > 1
       ·omega
       ·rw[if_neg hh] at ho
        cases ho
      rw[sz]
      refine kasC_bind (zeM T hc hN nd J (by omega) fun R5 g5 J5 l5 e5=>?_)
      simp only[Bool.not_true,Bool.false_eq_true,if_false]
      exact kasC_pure (zhQ R5 g5 J5 (fun z=>by rw[z] at l5;simp at l5;omega) e5)
  ·have pS1':=pS1
   have I2:SI lt l0 R S1:=⟨(pS1.append_left _).trans I.pm,I.up⟩
   refine kasC_bind (kasC_get ?_)
   have push:∀R2 g2,SI lt l0 R2 S1->(flt R2).length=(flt R).length->R'' (.yield (none,(flt R).length+m)) (yV κ it (flt R2++S1) ((toP 0 R2).toArray.push ((flt R).length,m,0)) g2) s:=fun R2 g2 J eJ=>by
    have e1:flt (R2++[(S1.take m,0)])++S1.drop m=flt R2++S1:=by
     rw[vB,List.append_assoc]
     congr 1
     show S1.take m++[]++S1.drop m=S1
     rw[List.append_nil,List.take_append_drop]
    have lc:(S1.take m).length=m:=by rw[zrQ];omega
    have e2:toP 0 (R2++[(S1.take m,0)])=toP 0 R2++[((flt R).length,m,0)]:=by
     rw[YQ,Nat.zero_add,eJ]
     show _++[((flt R).length,(S1.take m).length,0)]=_
     rw[lc]
    have e3:(flt (R2++[(S1.take m,0)])).length=(flt R).length+m:=by
     rw[vB,zrA,eJ]
     show(flt R).length+(S1.take m++[]).length=_
     rw[List.append_nil,lc]
    have z:=cont (R2++[(S1.take m,0)]) (S1.drop m) g2 ⟨by rw[e1];exact J.pm,fun e he=>by
     rcases List.mem_append.mp he with q | q
     ·exact J.up e q
     ·rw[List.mem_singleton.mp q]
      exact⟨uS1,by show 0<(S1.take m).length;omega⟩⟩ (by rw[List.length_drop];omega)
    rw[e1,e2,e3] at z
    have e4:(toP 0 R2++[((flt R).length,m,0)]).toArray=(toP 0 R2).toArray.push ((flt R).length,m,0):=by simp
    rw[e4] at z
    exact z
   cases hb:(toP 0 R).toArray.back? with
   | none =>
    rw[show(pendingOf (yV κ it (flt R++S1) (toP 0 R).toArray g)).back?=none from hb]
    dsimp only
    refine kasC_bind (kasC_modify (kasC_pure ?_))
    exact push R g I2 rfl
   | some bb =>
    rw[show(pendingOf (yV κ it (flt R++S1) (toP 0 R).toArray g)).back?=some bb from hb]
    obtain⟨s1,n1,p1⟩:=bb
    dsimp only
    have Rne:R≠[]:=fun z=>by rw[z] at hb;simp[toP] at hb
    refine kasC_bind (kasC_range ?_)
    refine inn _ _ R g rfl I2 Rne (fun R2 g2 J ne eJ=>?_) (fun z R2 g2 R3 J ne ext zhQ=>?_)
    ·dsimp only
     refine kasC_bind (kasC_modify ?_)
     refine kasC_bind (kasC_modify (kasC_pure ?_))
     obtain⟨R4,e,rfl⟩:∃R4 e,R2=R4++[e]:=⟨R2.dropLast,R2.getLast ne,(List.dropLast_concat_getLast ne).symm⟩
     have J2:∀pw,SI lt l0 (R4++[(e.1,pw)]) S1:=fun pw=>⟨by
      have:=J.pm
      rw[vB] at this ⊢
      exact this,fun e' he=>by
      rcases List.mem_append.mp he with q | q
      ·exact J.up e' (List.mem_append_left _ q)
      ·rw[List.mem_singleton.mp q]
       exact J.up e (zrJ _ zrM)⟩
     have ef:∀pw,flt (R4++[(e.1,pw)])=flt (R4++[e]):=fun pw=>by rw[vB,vB];rfl
     refine cast ?_ (push (R4++[(e.1,power' n (2*s1+n1) (2*s1+n1+n1+m) n)]) g2 (J2 _) (by rw[ef];exact eJ))
     congr 1
     show SortSt.mk' κ ((flt (R4++[(e.1,_)])++S1).map (kas_item it)).toArray ((toP 0 (R4++[(e.1,_)])).toArray.push _) g2 none=SortSt.mk' κ ((flt (R4++[e])++S1).map (kas_item it)).toArray (((toP 0 (R4++[e])).toArray.modify ((toP 0 (R4++[e])).toArray.size-1) _).push _) g2 none
     rw[ef]
     congr 2
     rw[YQ,YQ]
     exact(zdy (toP 0 R4) (0+(flt R4).length,e.1.length,e.2) (fun x=>(x.1,x.2.1,power' n (2*s1+n1) (2*s1+n1+n1+m) n))).symm
    ·refine kasC_bind (kasC_get ?_)
     cases ho:(if (pendingOf (yV κ it (flt R2++S1) (toP 0 R2).toArray g2)).size > 1 then (pendingOf (yV κ it (flt R2++S1) (toP 0 R2).toArray g2))[(pendingOf (yV κ it (flt R2++S1) (toP 0 R2).toArray g2)).size-2]? else none) with
     | none =>
      dsimp only
      exact kasC_pure ext
     | some ov =>
      obtain⟨_,_,older⟩:=ov
      dsimp only
      refine yO (fun _=>kasC_pure ext) (fun _=>?_)
      have sz:(pendingOf (yV κ it (flt R2++S1) (toP 0 R2).toArray g2)).size=R2.length:=by
       show(toP 0 R2).toArray.size=_
       rw[zrC,Pq]
      have h2:1<R2.length:=by
       by_cases hh:(pendingOf (yV κ it (flt R2++S1) (toP 0 R2).toArray g2)).size > 1
       ·omega
       ·rw[if_neg hh] at ho
        cases ho
      rw[sz]
      refine kasC_bind (zeM T hc hN nd J (by omega) fun R5 g5 J5 l5 e5=>?_)
      simp only[Bool.not_true,Bool.false_eq_true,if_false]
      exact kasC_pure (zhQ R5 g5 J5 (fun z=>by rw[z] at l5;simp at l5;omega) e5)
end
section
variable {prog:Program}{w:World}{A:Around}{E:Value->Shared->Prop}{s:Shared}
theorem zhR {a:Addr}{vs:List Value}{n N:Nat}{lt:Nat->Nat->Bool}{ty:Value}{P:PySem.Fin->Shared->Prop}(T:Tot lt N)(ho:s.heap.get? a=some (seqObj "list" vs.toArray n))(hN:vs.length=N)(h2N:2<=N)(hz:N<=1000)
  (hT:∀h':Heap,(∀b o,b≠a->s.heap.get? b=some o->h'.get? b=some o)->∀v∈vs,Looks (model prog w) h' (typeOf v) ty)(t1:(ty != Value.type "tuple")=true)(t2:(ty==ty)=true)
  (hc:∀(h':Heap),(∀b o,b≠a->s.heap.get? b=some o->h'.get? b=some o)->∀i j,i<N->j<N->∀C:Bool->Shared->Prop,C (lt i j) { s with heap:=h' }->wpAny (model prog w) A (keyLt' oneType' (vs.getD i .none) (vs.getD j .none)) C (fun _ _=>False) { s with heap:=h' })
  (h:∀l':List Nat,l'.Perm (List.range N)->Up lt l'->P (.done (.ret .none)) { s with heap:=sortedHeap s.heap a vs (l'.map (fun i=>vs.getD i .none)).toArray }) :
  wpAny (model prog w) A (Builtin.«list.sort» ⟨[.ref a],[]⟩) P E s:=by
 rw[list_sort_plain]
 have ha:a<s.heap.objs.size:=zrz ho
 refine wpAny_bind (listItems_at ho rfl ?_)
 refine wpAny_bind (listUpdate_at ho rfl ?_ (by rw[zrC,sizeLine_eq];omega) (zrP _))
 obtain⟨e1,ho1⟩:∃e1,(s.heap.update a (Obj.mapSeq fun _=>#[])).get? a=some (seqObj "list" #[] e1):=⟨_,get?_update_seq ho (fun _=>#[])⟩
 refine wpAny_bind (seqEpoch_at ho1 rfl ?_)
 refine wpAny_bind (wpAny_newTuple ?_ (by show vs.length<=_;rw[sizeLine_eq];omega))
 refine wpAny_bind (wpAny_newList ?_ (zrP _))
 refine wpAny_holding ?_
 have ho6:(((s.heap.update a (Obj.mapSeq fun _=>#[])).push (seqObj "tuple" vs.toArray 0)).push (seqObj "list" #[] 0)).get? a=some (seqObj "list" #[] e1):=by
  rw[Heap.get?_push_ne _ _ _ (by rw[size_push',Heap.size_update];exact zrH (Nat.lt_succ_of_lt ha)),Heap.get?_push_ne _ _ _ (by rw[Heap.size_update];exact zrH ha)]
  exact ho1
 have keep:∀b o,b≠a->s.heap.get? b=some o->(((s.heap.update a (Obj.mapSeq fun _=>#[])).push (seqObj "tuple" vs.toArray 0)).push (seqObj "list" #[] 0)).get? b=some o:=fun b o hb e=>by
  have hlt:=zrz e
  rw[Heap.get?_push_ne _ _ _ (by rw[size_push',Heap.size_update];exact zrH (Nat.lt_succ_of_lt hlt)),Heap.get?_push_ne _ _ _ (by rw[Heap.size_update];exact zrH hlt),Heap.get?_update_ne _ _ _ _ hb]
  exact e
 show wpAny (model prog w) A _ P E { s with heap:=((s.heap.update a (Obj.mapSeq fun _=>#[])).push (seqObj "tuple" vs.toArray 0)).push (seqObj "list" #[] 0) }
 dsimp only
 have hsz:vs.toArray.size=vs.length:=by simp
 have end_:∀(st':SortSt) (l':List Nat),l'.Perm (List.range N)->Up lt l'->(arrOf st').map (·.2)=(l'.map (fun i=>vs.getD i .none)).toArray->failedOf st'=none->wpAny (model prog w) A (do
   let touched:=(<-seqEpoch a) != e1
   Builtin.List.listUpdate (.ref a) fun _=>(arrOf st').map (·.2)
   if let some e:=failedOf st' then rule "list.sort.comparison-raised";throw e
   if touched then rule "list.sort.modified";raiseError "ValueError" "list modified during sort"
   ret .none) P E { s with heap:=((s.heap.update a (Obj.mapSeq fun _=>#[])).push (seqObj "tuple" vs.toArray 0)).push (seqObj "list" #[] 0) }:=fun st' l' p' u' e2 hf=>by
  have lp:=p'.length_eq
  rw[zrK] at lp
  refine wpAny_bind (seqEpoch_at ho6 rfl ?_)
  refine wpAny_bind (listUpdate_at ho6 rfl ?_ (zrP _) (by rw[e2,sizeLine_eq];simp;omega))
  rw[hf,e2]
  simp only[bne_self_eq_false,Bool.false_eq_true,if_false]
  exact wpAny_pure (h l' p' u')
 rw[if_neg (by rw[hsz];omega),if_neg (by rw[hsz];omega)]
 refine wpAny_bind (kas_kind (T:=ty) (by omega) (fun v hv=>hT _ keep v hv) t1 t2 ?_)
 have est:SortSt.mk' oneType' (vs.toArray.zip vs.toArray) #[] 7 none=yV oneType' (pairsOf vs) (List.range N) #[] 7:=by
  have e:=kas_range (pairsOf vs)
  rw[pairsOf_size,hN] at e
  show SortSt.mk' oneType' (pairsOf vs) #[] 7 none=SortSt.mk' oneType' ((List.range N).map (kas_item (pairsOf vs))).toArray #[] 7 none
  rw[<-List.map_toArray,e]
 have go:=zmC (prog:=prog) (w:=w) (A:=A) (E:=E) (κ:=oneType') (it:=pairsOf vs) (s:={ s with heap:=((s.heap.update a (Obj.mapSeq fun _=>#[])).push (seqObj "tuple" vs.toArray 0)).push (seqObj "list" #[] 0) })
  (Q:=fun _ st' s'=>∃l':List Nat,l'.Perm (List.range N)/\Up lt l'/\arrOf st'=(l'.map (kas_item (pairsOf vs))).toArray/\failedOf st'=none/\s'={ s with heap:=((s.heap.update a (Obj.mapSeq fun _=>#[])).push (seqObj "tuple" vs.toArray 0)).push (seqObj "list" #[] 0) })
  T (fun i j hi hj C hC=>by
   unfold kas_cmp
   rw[kas_item_eq,kas_item_eq]
   exact hc _ keep i j hi hj C hC) (fun l' st' a1 a2 a3 a4=>⟨l',a1,a2,a3,a4,rfl⟩)
 rw[<-est] at go
 refine wpAny_bind (wpAny_mono go ?_ fun _ _ e=>e)
 rintro⟨⟨⟩,st'⟩ s' ⟨l',p',u',har,hf,rfl⟩
 refine end_ st' l' p' u' ?_ hf
 have har':arrOf st'=(l'.map (kas_item (pairsOf vs))).toArray:=har
 rw[har']
 apply Array.toList_inj.mp
 rw[Array.toList_map,zr4]
 exact List.map_congr_left fun i _=>by
  show(kas_item (pairsOf vs) i).2=_
  rw[kas_item_eq]
theorem Pr:∀{vs:List Value} {ns:List Int},IntsAre vs ns->∀i,i<ns.length->∃t,vs.getD i .none=.int (ns.getD i 0) t
 | _,_,.nil,i,h=>by simp at h
 | _,_,.cons _ _ hI,0,_=>⟨_,rfl⟩
 | _,_,.cons _ _ hI,i+1,h=>by
  obtain⟨t,e⟩:=Pr hI i (by simpa using h)
  exact⟨t,by simpa using e⟩
theorem ints_map {vs:List Value}{ns:List Int}(hI:IntsAre vs ns):∀(l:List Nat),(∀i∈l,i<ns.length)->IntsAre (l.map fun i=>vs.getD i .none) (l.map fun i=>ns.getD i 0)
 | [],_=>.nil
 | i::l,h=>by
  obtain⟨t,e⟩:=Pr hI i (h i zrM)
  show IntsAre (vs.getD i .none::_) (ns.getD i 0::_)
  rw[e]
  exact .cons _ _ (ints_map hI l fun j hj=>h j (zrD _ hj))
theorem zaG {a:Addr}{vs:List Value}{ns:List Int}{n:Nat}{P:PySem.Fin->Shared->Prop}(ho:s.heap.get? a=some (seqObj "list" vs.toArray n))(hI:IntsAre vs ns)(nd:ns.Nodup)(hz:vs.length<=1000)
  (h:∀(out:Array Value) (ms:List Int),IntsAre out.toList ms->ms.Perm ns->ms.Pairwise (·<=·)->P (.done (.ret .none)) { s with heap:=sortedHeap s.heap a vs out }) :
  wpAny (model prog w) A (Builtin.«list.sort» ⟨[.ref a],[]⟩) P E s:=by
 have hl:=hI.length
 by_cases h64:vs.length<64
 ·exact list_sort_tree ho hI h64 h
 have gi:∀i,i<ns.length->ns[i]?=some (ns.getD i 0):=fun i hi=>by rw[zrF,zrt hi];rfl
 have T:Tot (fun i j=>decide (ns.getD i 0<ns.getD j 0)) vs.length:=⟨fun {i j k} _ _ _ a b=>decide_eq_true (Int.lt_trans (of_decide_eq_true a) (of_decide_eq_true b)),fun {i j} hi hj hne hf=>by
  have h1:=of_decide_eq_false hf
  have h2:ns.getD i 0≠ns.getD j 0:=fun z=>hne ((List.getElem?_inj (by omega:i<ns.length) nd).mp (by rw[gi i (by omega),gi j (by omega),z]))
  exact decide_eq_true (by omega),fun {i j} _ _ ht=>by
  have:=of_decide_eq_true ht
  exact decide_eq_false (by omega)⟩
 refine zhR (ty:=.type "int") T ho rfl (by omega) hz (fun h' _ v hv=>?_) (by rfl) (by rfl) (fun h' _ i j hi hj C hC=>?_) (fun l' p' u'=>?_)
 ·obtain⟨i,hi,ev⟩:=zr9 hv
  obtain⟨t,e⟩:=Pr hI i (by omega)
  rw[zrF,zrt hi,ev] at e
  have e':v=.int (ns.getD i 0) t:=e
  rw[e']
  exact fun A Q E s' k q=>wpAny_typeOf (T := "int") (typeIs_int _ _ _) q
 ·obtain⟨t,e⟩:=Pr hI i (by omega)
  obtain⟨u,e2⟩:=Pr hI j (by omega)
  rw[e,e2,keyLt'_oneType]
  exact oneLt_int hC
 ·have inl:∀i∈l',i<ns.length:=fun i hi=>by have:=List.mem_range.mp (p'.mem_iff.mp hi);omega
  refine h _ (l'.map fun i=>ns.getD i 0) (ints_map hI l' inl) ?_ ?_
  ·have e:(List.range vs.length).map (fun i=>ns.getD i 0)=ns:=by
    refine List.ext_getElem? fun i=>?_
    rw[zru]
    by_cases hi:i<vs.length
    ·rw[List.getElem?_range hi]
     exact(gi i (by omega)).symm
    ·rw[zr2 (by simp;omega),zr2 (by omega)]
     rfl
   have:=p'.map fun i=>ns.getD i 0
   rw[e] at this
   exact this
  ·exact List.pairwise_map.mpr (u'.imp fun {a b} hab=>Int.le_of_lt (of_decide_eq_true hab))
end
section
variable {X:Cx}
theorem Pu (hc:X.calm=true):YF X (.builtin "sorted") (fun xs H Q=>∃(p:Addr) (kvs:List (Key×V)) (ns:List Int),xs=[.ref p]/\H p=some (.dK kvs)/\kvs.map (·.1)=ns.map Sum.inl/\ns.length<=1000/\ns.Nodup/\∀(l:Addr) (ms:List Int),H l=none->ms.Perm ns->ms.Pairwise (·<=·)->Q (.ref l) (upd H l (.lst (ms.map V.int)))):=by
 intro pins s σ H xs us Q I r h
 obtain⟨p,kvs,ns,rfl,hp,hns,h64,ndn,q⟩:=h
 obtain⟨u,rfl,rx⟩:=vals1 r
 cases rx
 obtain⟨hz,lo,vs,rv,hD⟩:=(show kvs.length<=sizeLine/\(p==sysModules)=false/\∃vs,KV kvs vs/\s.heap.DictOf (yc X.prog X.w) p vs from I.hok p _ hp)
 obtain⟨ep,hat⟩:=hD.dictAt
 have hl:kvs.length=vs.length:=Paired.length rv
 have hnl:kvs.length=ns.length:=by have:=congrArg List.length hns;rw[zrs,zrs] at this;exact this
 refine Calls.call_function_entry kind_sorted plain_sorted entry_sorted (args_sorted1 _) ?_
 unfold Builtin.«sorted»
 refine wpAny_bind (m:=checkCount "sorted" 1 1 _) (wpAny_pure ?_)
 refine wpAny_bind (PySem.W.kdu_collect (PySem.W.kdl_dict (knd:=yc X.prog X.w) (kvs:=vs) (ep:=ep) lo) (I.ok.hd hc) hat (by omega) fun h' tk acc hk hacc=>?_)
 have hoL:(h'.push (seqObj "list" acc.toList.toArray 0)).get? h'.objs.size=some (seqObj "list" acc.toList.toArray 0):=zrN _ rfl
 have hv:Vals (ns.map V.int) acc.toList:=by
  refine Q7 (by rw[zrs];have:=hacc.1;simp;omega) fun j v hv=>?_
  obtain⟨k,x,hx,hkv⟩:=hacc.2 j v (by rw[<-Array.getElem?_toList];exact hv)
  obtain⟨y,hy,e1,_⟩:=QV rv hx
  have e2:(ns.map (Sum.inl:Int->Key))[j]?=some y.1:=by rw[<-hns,zru,hy];rfl
  rw[zru] at e2
  cases hj:ns[j]? with
  | none=>rw[hj] at e2;cases e2
  | some i =>
   rw[hj] at e2
   have e3:(Sum.inl i:Key)=y.1:=zrX e2
   refine⟨.int i,by rw[zru,hj];rfl,?_⟩
   have e1':y.1=k:=e1
   rw[<-e1',<-e3] at hkv
   rcases xq (k:=(Sum.inl i:Key)) (v:=v) hkv with ⟨i',t,e4,rfl⟩ | ⟨z,t,e4,rfl⟩
   ·cases e4;exact⟨_,rfl⟩
   ·cases e4
 have hi:IntsAre acc.toList ns:=intsAre_of hv
 have hal:acc.toList.length=ns.length:=hi.length
 refine wpAny_bind (wpAny_newList ?_ (hsz:=by rw[hal];exact zrL (zY (by omega))))
 show wpAny _ _ _ _ _ { s with heap:=h'.push (seqObj "list" acc.toList.toArray 0),toks:=tk }
 refine wpAny_bind (wpAny_holding (wpAny_call_entry slot_list_sort ⟨_,hoL,rfl⟩ entry_list_sort (zaG hoL hi ndn (by omega) fun out ms a1 a2 a3=>⟨_,rfl,?_⟩) (args_list_sort _)))
 refine wpAny_pure ⟨_,rfl,?_⟩
 have I1:Inv X pins σ H { s with heap:=h',toks:=tk }:=I.kept hk
 obtain⟨e,he⟩:=sortedHeap_at (vs:=acc.toList) (out:=out) hoL
 have hf:H h'.objs.size=none:=I1.hok.fresh (zrI _)
 have hlm:=a2.length_eq
 have s64:=zY (n:=ms.length) (by omega)
 refine⟨.ref h'.objs.size,_,I1.laid (o:=.lst (ms.map V.int)) (fun b o e=>?_) (zrI _) ?_,rfl,q _ ms hf a2 a3⟩
 ·have lb:=zrz e
  rw[sortedHeap_old (zrH lb) (by rw[size_push'];exact Nat.lt_succ_of_lt lb)]
  exact zry _ e
 ·refine⟨by rw[zrs];exact zrL s64,out.toList,e,Mg a1,?_⟩
  simpa using he
end
end L2
namespace uU
open PySem L2 yF
theorem zmD {ks:List Nat}(nd:ks.Nodup):(ks.map fun(n:Nat)=>(n:Int)).Nodup:=List.pairwise_map.mpr (nd.imp fun {a b} h z=>h (Int.ofNat.inj z))
section
variable (C:Addr)
inductive JX (vs:List V)(H:Hp)(Q:VK)(E9:XK):Prop
 | mk (b:Addr) (os:List Str) (rs:List Rm) (F:xu) (k:Nat) (_:vs=[.ref b,.int k]) (_:zW C H b os rs F) (_:k<rs.length) (_:∀(l:Addr) (H':Hp) (ms:List Int),Same H H'->H l=none->H' l=some (.lst (ms.map V.int))->Q8 rs k ms->Q (.ref l) H'):JX vs H Q E9
inductive JZ (vs:List V)(H:Hp)(Q:VK)(E9:XK):Prop
 | mk (b:Addr) (os:List Str) (rs:List Rm) (F:xu) (k:Nat) (_:vs=[.ref b,.int (k:Nat)]) (_:zW C H b os rs F) (_:k<rs.length) (_:∀(H':Hp) (ms:List Int),Same H H'->Q8 rs k ms->Q (.int (ms.length:Nat)) H'):JZ vs H Q E9
end
theorem Y9 {n p:Nat}{f:Nat->Bool}{v:Bool}(hp:p<n)(fr:∀i,i<p->Free n f i):∀i,i<p+1->Free n (fun b=>f (zE b p v)) i:=fun i hi b hb u=>by
 show f (zE (zE b i u) p v)=f (zE b p v)
 by_cases e:i=p
 ·subst e
  congr 1
  refine Zm (zP (zP hb hp) hp) (zP hb hp) fun j _=>?_
  rw[zM,zM,zM]
  by_cases e:j=i
  ·rw[if_pos e,if_pos e]
  ·rw[if_neg e,if_neg e,if_neg e]
 ·have hi':i<p:=by omega
  rw[<-fr i hi' (zE b p v) (zP hb hp) u]
  congr 1
  refine Zm (zP (zP hb (by omega)) hp) (zP (zP hb hp) (by omega)) fun j _=>?_
  rw[zM,zM,zM,zM]
  by_cases e1:j=p
  ·rw[if_pos e1,if_pos e1,if_neg (by omega)]
  ·rw[if_neg e1,if_neg e1]
theorem zjl {n i:Nat}{f g:Nat->Bool}(h:Free n f i)(k:Free n g i):Free n (fun b=>f b||g b) i:=fun b hb v=>by
 show(f (zE b i v)||g (zE b i v))=(f b||g b)
 rw[h b hb v,k b hb v]
theorem zmE {m:Nat}{x:V}(h:([.int 0,.int 1]:List V)[m]?=some x):∃v:Bool,[false,true][m]?=some v/\x=.int ((v.toNat:Nat):Int):=by
 match m,h with
 | 0,h=>cases h;exact⟨false,rfl,rfl⟩
 | 1,h=>cases h;exact⟨true,rfl,rfl⟩
end uU
namespace L2
open PySem PySem.Spec PyProof.Rows
section
variable {X:Cx}{pins:List (Addr×Obj)}{σ:St}{H:Hp}{s:Shared}
theorem Inv.held {d:Addr}{kvs:List (Key×V)}{o:Obj}(I:Inv X pins σ H s)(e:H d=some (.dK kvs))(ho:s.heap.get? d=some o):Inv X pins σ (upd H d (.Ji o (.dK kvs))) s :=
 I.write (t':=s.toks) (h':=s.heap) (by rw[e];exact trivial) (.inl rfl) (fun _ _ _ q=>q) ⟨o,ho⟩ ⟨ho,I.hok d _ e⟩
end
theorem zfN {P:Program}{w:World}{h h':Heap}{d:Addr}{o:Obj}{vs vs':List (Key×Value)}{ep ep':Nat}(ho:h.get? d=some o)(hd:h'.get? d=some o)(x:h.DictAt (yc P w) d vs ep)(x':h'.DictAt (yc P w) d vs' ep'):ep'=ep:=by
 obtain⟨o1,es1,ho1,_,zmF,_⟩:=x
 obtain⟨o2,es2,ho2,_,zka,_⟩:=x'
 rw[ho] at ho1
 cases ho1
 rw[hd] at ho2
 cases ho2
 rw[zmF] at zka
 cases zka
 rfl
section
variable {X:Cx}
def zoj:V->Option Int->Option Int->Hp->VK->Prop:=fun x lo hi H Q=>∃z:Str,x=.str z/\z.length<=sizeLine/\Q (.str (Txt.slice z lo hi)) H
theorem zhS:SlR X zoj:=by
 intro pins s σ H x v vl vu lo hi sl Q I rx hs pl pu h
 obtain⟨z,rfl,hz,q⟩:=h
 obtain⟨t,rfl⟩:=rx
 refine⟨"str", _,PySem.F.slot_str_getitem.lookup,typeIs_str _ _ _,?_⟩
 have fin:∀(t':Tok) (k:Nat),EP X pins σ Q (.str (Txt.slice z lo hi) t') { s with toks:=k }:=fun t' k=>⟨.str (Txt.slice z lo hi),H,I.tok _,⟨t',rfl⟩,q⟩
 cases pl with
 | none=>cases pu with
  | none=>exact wpAny_getItem_str_slice (l:=none) (u:=none) (st:=none) hs rfl (post_val_or_str ⟨zrO (Txt.slice_le z _ _) hz,fin⟩)
  | int j uj=>exact wpAny_getItem_str_slice (l:=none) (u:=some (j,uj)) (st:=none) hs rfl (post_val_or_str ⟨zrO (Txt.slice_le z _ _) hz,fin⟩)
 | int i ui=>cases pu with
  | none=>exact wpAny_getItem_str_slice (l:=some (i,ui)) (u:=none) (st:=none) hs rfl (post_val_or_str ⟨zrO (Txt.slice_le z _ _) hz,fin⟩)
  | int j uj=>exact wpAny_getItem_str_slice (l:=some (i,ui)) (u:=some (j,uj)) (st:=none) hs rfl (post_val_or_str ⟨zrO (Txt.slice_le z _ _) hz,fin⟩)
end
end L2
namespace uU
open PySem L2 yF
section
variable {os:List Str}{t:Nat->Bool}
theorem zk8 {x:List Nat}{j:Nat}{v:V}(h:(RZ x)[j]?=some v):∃b,x[j]?=some b/\v=.int (b:Nat):=by
 unfold RZ at h
 rw[zru] at h
 cases hx:x[j]? with
 | none=>rw[hx] at h;cases h
 | some b=>rw[hx] at h;exact⟨b,rfl,(zrX h).symm⟩
theorem J0 (x:List Nat):(RZ x).length=x.length:=zrs _
end
section
variable (C:Addr)(K:Frag)
def tB (rs:List Rm)(k:Nat):Nat->Bool:=fun b=>yes rs k (KJ b)
end
theorem RX.rise {C:Addr}{H0:Hp}{b:Addr}{os:List Str}{m n:Nat}{H:Hp}{rs:List Rm}{F:xu}(h:RX C H0 b os m H rs F){H':Hp}{rs':List Rm}(aw:zhu F H H')(hB:zW C H' b os rs' F)(hh:hiN os.length rs'<=hiN os.length rs+n):RX C H0 b os (m+n) H' rs' F :=
 ⟨fun x o e=>aw x o (h.same _ _ e) fun z=>(by have:=h.away x z;rw[this] at e;cases e),h.away,hB,zrO hh (Nat.add_le_add_right h.hi _)⟩
section
variable {os:List Str}
variable {t:Nat->Bool}
theorem zjm {n N M:Nat}{f g:Nat->Bool}(a:zN n N f)(b:zN n M g):zN n (N&&&M) fun c=>f c&&g c:=fun c=>by
 rw[Nat.testBit_and,a c,b c]
 cases decide (c<2^n)<;>simp
end
def hav (l:List (Nat×Bool))(b:Nat):Bool:=l.all fun x=>b.testBit x.1==x.2
section
variable (C:Addr)(K:Frag)
inductive VL (vs:List V)(H:Hp)(Q:VK)(E9:XK):Prop
 | mk (pl rl:Addr) (n:Nat) (ps:List Nat) (r:List Bool) (_:vs=[.ref pl,.ref rl,.int (n:Nat)]) (_:n<=8) (_:zX K H pl (RZ ps)) (_:zX K H rl (Uo r)) (_:(∀p∈ps,p<n)) (_:ps.length=r.length) (_:ps.length<=8) (_:∀(R:Nat) (H':Hp),Same H H'->zN n R (hav (ps.zip r))->Q (.int (R:Nat)) H'):VL vs H Q E9
end
end uU
namespace L2
open PySem
section
variable {K:Frag}{σ:St}{js:List Nat}{tt:TT}{te:TE}{H:Hp}{Qf:Addr->Hp->List V->Prop}
open uU
theorem J6 {a:Addr}{xs:List V}(Pv:Nat->List V->Hp->Prop)(h0:Pv 0 [] H)(hz:xs.length<=sizeLine)
  (hl:∀i ys H,i<=xs.length->Pv i ys H->zX K H a xs/\ys.length<=i)
  (hs:∀i x ys H (Q:V->Hp->Prop),xs[i]?=some x->Pv i ys H->(∀v H3,Pv (i+1) (ys++[v]) H3->Q v H3)->te (Yg σ js (some x)) H Q)
  (hd:∀ys H p,Pv xs.length ys H->H p=none->Qf p H ys) :
  ∃W:Nat->Nat->List V->Hp->Prop,(∃m,W 0 m [] H)/\∀i m ys H,W i m ys H ->
   ((Itl K a).stop i H/\∀p,H p=none->Qf p H ys) \/
   ((Itl K a).go i H/\ys.length<sizeLine/\∀x H',(Itl K a).Qs i H x H'->Vx (Yg σ js (some x)) H' fun b H2 =>
    if b=true then te (Yg σ js (some x)) H2 fun v H3=>∃m',m'<m/\W (i+1) m' (ys++[v]) H3 else ∃m',m'<m/\W (i+1) m' ys H2):=by
 refine⟨fun i m ys H=>m=xs.length-i/\i<=xs.length/\Pv i ys H,⟨xs.length,by simp,zrP _,h0⟩,?_⟩
 rintro i m ys H ⟨rfl,hi,p⟩
 obtain⟨q,hy⟩:=hl i ys H hi p
 by_cases hlt:i<xs.length
 ·refine .inr ⟨⟨xs,xs[i],q,by simp[hlt]⟩,by omega,fun x H' y=>?_⟩
  obtain⟨e,y⟩:=y
  subst e
  show te (Yg σ js (some x)) H' fun v H3=>∃m',m'<xs.length-i/\(m'=xs.length-(i+1)/\i+1<=xs.length/\Pv (i+1) (ys++[v]) H3)
  exact hs i x ys _ _ (y xs q) p fun v H3 h3=>⟨_,Nat.sub_lt_sub_left hlt (Nat.lt_succ_self i),rfl,hlt,h3⟩
 ·have e:i=xs.length:=by omega
  subst e
  exact .inl ⟨⟨xs,q,zrI _⟩,fun pp hp=>hd ys H pp p hp⟩
end
end L2
namespace uU
open PySem L2 yF
theorem RX.made {C:Addr}{H0 H':Hp}{bk dx:Addr}{os:List Str}{F:xu}{o1 o2:HO}(hbk:H0 bk=none)(hdx:H0 dx=none)(hne:dx≠bk)(keep:∀x o,upd (upd H0 dx o1) bk o2 x=some o->x≠bk->H' x=some o)
  (hB:zW C H' bk os [none,none] F)(hF:∀x,F x->x=bk\/x=dx\/upd (upd H0 dx o1) bk o2 x=none):RX C H0 bk os 0 H' [none,none] F:=by
 refine⟨fun x o e=>keep x o (by rw[zB (zy e hbk),zB (zy e hdx)];exact e) (zy e hbk),fun x hx=>?_,hB,zrI _⟩
 rcases hF x hx with z | z | z
 ·rw[z];exact hbk
 ·rw[z];exact hdx
 ·by_cases e1:x=bk
  ·rw[e1] at z;rw[zj] at z;cases z
  ·by_cases e2:x=dx
   ·rw[e2,zB hne,zj] at z;cases z
   ·rw[zB e1,zB e2] at z;exact z
theorem zbv {σ:St}{js:List Nat}{te:TE}{H:Hp}{Qf:Addr->Hp->List V->Prop}{os:List Str}{rs:List Rm}{n:Nat}(hn:n<=rs.length)(hz:n<=sizeLine)
  (hte:∀(i:Nat) H' (Q:V->Hp->Prop) x,i<n->rs[i]?=some x->Same H H'->(∀v H3,Same H' H3->LK os H3 x v->Q v H3)->te (Yg σ js (some (.int ((0:Int)+i)))) H' Q)
  (hd:∀ys H' p,Same H H'->ys.length=n->Xk os H' rs ys->H' p=none->Qf p H' ys) :
  ∃W:Nat->Nat->List V->Hp->Prop,(∃m,W 0 m [] H)/\∀i m ys H,W i m ys H ->
   ((Itr 0 n).stop i H/\∀p,H p=none->Qf p H ys) \/
   ((Itr 0 n).go i H/\ys.length<sizeLine/\∀x H',(Itr 0 n).Qs i H x H'->Vx (Yg σ js (some x)) H' fun b H2 =>
    if b=true then te (Yg σ js (some x)) H2 fun v H3=>∃m',m'<m/\W (i+1) m' (ys++[v]) H3 else ∃m',m'<m/\W (i+1) m' ys H2):=by
 refine⟨fun i m ys H'=>m=n-i/\i<=n/\Same H H'/\ys.length=i/\Xk os H' rs ys,⟨n,by simp,zrP _,Same.refl _,rfl,zrP _,fun j v e=>by simp at e⟩,?_⟩
 rintro i m ys H1 ⟨rfl,hi,g,ly,r⟩
 by_cases hlt:i<n
 ·refine .inr ⟨hlt,by omega,fun x H' y=>?_⟩
  obtain⟨e,y⟩:=y
  subst e y
  obtain⟨x,hx⟩:∃x,rs[i]?=some x:=⟨_,zrt (by omega)⟩
  refine hte i _ _ x hlt hx g fun v H3 g3 rv=>⟨_,Nat.sub_lt_sub_left hlt (Nat.lt_succ_self i),rfl,hlt,g.trans g3,by rw[zrA,ly];rfl,by rw[zrA,ly];show i+1<=_;omega,fun j u hj=>?_⟩
  by_cases hj':j<ys.length
  ·rw[zrZ hj'] at hj
   obtain⟨x',a1,a2⟩:=r.2 j u hj
   exact⟨x',a1,a2.mono (yH.of g3)⟩
  ·rw[List.getElem?_append_right (by omega)] at hj
   have hj0:j-ys.length=0:=by
    have:=(zrv.mp hj).1
    rw[zr0] at this
    omega
   rw[hj0] at hj
   have ev:v=u:=zrX hj
   have ej:j=i:=by omega
   rw[<-ev,ej]
   exact⟨x,hx,rv⟩
 ·have e:i=n:=by omega
  subst e
  exact .inl ⟨zrI _,fun l hl=>hd ys _ l g ly r hl⟩
end uU
namespace L2
open PySem PySem.Spec PyProof.Rows
theorem zk9:bootBuiltins "any"=some (.builtin "any"):=by decide +kernel
theorem zaH (bs:List Bool):((List.range bs.length).any fun i=>(bs[i]?).getD true)=bs.any id:=by
 rw[zr8,List.any_eq_true,List.any_eq_true]
 constructor
 ·rintro⟨i,hi,e⟩
  have hi':=List.mem_range.mp hi
  rw[zrt hi',Option.getD_some] at e
  exact⟨_,List.getElem_mem hi',e⟩
 ·rintro⟨b,hb,e⟩
  obtain⟨i,hi,eb⟩:=zr9 hb
  refine⟨i,List.mem_range.mpr hi,?_⟩
  rw[zrt hi,Option.getD_some,eb]
  exact e
section
variable {X:Cx}
theorem zhT (hc:X.calm=true):YF X (.builtin "any") (fun xs H Q=>∃(p:Addr) (bs:List Bool),xs=[.ref p]/\zX X.K H p (bs.map V.bl)/\Q (.bl (bs.any id)) H):=by
 intro pins s σ H xs us Q I r h
 obtain⟨p,bs,rfl,hq,q⟩:=h
 obtain⟨u,rfl,rx⟩:=vals1 r
 cases rx
 obtain⟨its,r',pl,hz⟩:=I.list hq
 have hlen:bs.length=its.length:=by have:=r'.length;rw[zrs] at this;exact this
 have hlt:p<s.heap.objs.size:=by obtain⟨_,e,_⟩:=pl.isList;exact zrz e
 refine call_any_walk (wpAny_pyIter_list pl.isList ?_)
 refine⟨s.heap.objs.size,[s.heap.objs.size,p],[s.heap.objs.size],its.toArray.size,_,_,fun i=>(bs[i]?).getD true,rfl,Walks.list (A:=X.A.in1) (I.ok.hd hc) _ p (zrH hlt) its.toArray,
  ⟨⟨_,zrN _ rfl,rfl,rfl⟩,pl.isList.push _⟩,fun i v s' Q' E' hP hQ=>?_,fun h' tk hk=>?_⟩
 ·have hP':its[i]?=some v:=by simpa using hP
  have hi:i<bs.length:=by
   have:=(zrv.mp hP').1
   omega
  obtain⟨w,hw,rw'⟩:=r'.get (i:=i) (x:=.bl bs[i]) (by rw[zru,zrt hi];rfl)
  rw[hP'] at hw
  cases hw
  cases rw'
  simp only[zrt hi,Option.getD_some] at hQ
  exact wpAny_truthy_bool hQ
 ·have kp:∀b o,s.heap.get? b=some o->h'.get? b=some o:=fun b o e=>hk b o (fun hm=>by
   rw[List.mem_singleton.mp hm] at e
   exact Nat.lt_irrefl _ (zrz e)) (zry _ e)
  refine⟨.bl _,H,I.kept kp,rfl,?_⟩
  rw[zrC,<-hlen,zaH]
  exact q
end
end L2
namespace L2
open PySem
theorem zjn {σ:St}{js:List Nat}{te:TE}{H:Hp}{Qf:Addr->Hp->List V->Prop}{n:Nat}(Pv:Nat->List V->Hp->Prop)(h0:Pv 0 [] H)(hz:n<=sizeLine)(hl:∀i ys H,i<=n->Pv i ys H->ys.length<=i)
  (hs:∀(i:Nat) ys H (Q:V->Hp->Prop),i<n->Pv i ys H->(∀v H3,Pv (i+1) (ys++[v]) H3->Q v H3)->te (Yg σ js (some (.int ((0:Int)+i)))) H Q)
  (hd:∀ys H p,Pv n ys H->H p=none->Qf p H ys) :
  ∃W:Nat->Nat->List V->Hp->Prop,(∃m,W 0 m [] H)/\∀i m ys H,W i m ys H ->
   ((Itr 0 n).stop i H/\∀p,H p=none->Qf p H ys) \/
   ((Itr 0 n).go i H/\ys.length<sizeLine/\∀x H',(Itr 0 n).Qs i H x H'->Vx (Yg σ js (some x)) H' fun b H2 =>
    if b=true then te (Yg σ js (some x)) H2 fun v H3=>∃m',m'<m/\W (i+1) m' (ys++[v]) H3 else ∃m',m'<m/\W (i+1) m' ys H2):=by
 refine⟨fun i m ys H=>m=n-i/\i<=n/\Pv i ys H,⟨n,by simp,zrP _,h0⟩,?_⟩
 rintro i m ys H ⟨rfl,hi,p⟩
 have hy:=hl i ys H hi p
 by_cases hlt:i<n
 ·refine .inr ⟨hlt,by omega,fun x H' y=>?_⟩
  obtain⟨e,y⟩:=y
  subst e y
  exact hs i ys _ _ hlt p fun v H3 h3=>⟨_,Nat.sub_lt_sub_left hlt (Nat.lt_succ_self i),rfl,hlt,h3⟩
 ·have e:i=n:=by omega
  subst e
  exact .inl ⟨zrI _,fun pp hp=>hd ys H pp p hp⟩
end L2
namespace L2
open PySem PySem.Spec PyProof.Rows
section
variable {K:Frag}{σ:St}{js:List Nat}{tt:TT}{te:TE}{H:Hp}{Qf:Addr->Hp->List V->Prop}
def sgs (x:Str):List V:=x.cps.toList.map fun c=>V.str ⟨#[c]⟩
end
end L2
namespace L2
open PySem PySem.Spec PyProof.Rows PySem.Builtin PySem.Builtin.Str
def zhU (x:Str):It:={ go:=fun i _=>i<x.cps.size,Qs:=fun i H v H'=>∃p c,x.cps[i]?=some c/\v=.ref p/\H p=none/\H'=upd H p (.tup [.int (i:Nat),.str ⟨#[c]⟩]),stop:=fun i _=>i=x.cps.size }
theorem zeN {P:Program}{w:World}{K:Frag}{els:List Expr}{x1}{pt:Pos}(x:Str)(t:Tok)(e it:Addr)(hne:e≠it):Turn P w K (.Tuple els x1 pt) (zhU x) [e,it] e (fun i h=>(∃old,IsEnum h e it (i:Nat) old)/\h.IsStrIter it "str_ascii_iterator" x t i) where
 mem:=by simp
 obj:=fun i h st b hb=>by
  rcases List.mem_cons.mp hb with z | z
  ·obtain⟨⟨old,q⟩,_⟩:=st
   rw[z]
   exact⟨_,q,fun v hv=>by cases hv⟩
  ·have z':b=it:=by simpa using z
   obtain⟨_,o,q,c,d⟩:=st
   rw[z']
   exact⟨o,q,fun v hv=>by rw[d] at hv;cases hv⟩
 keep:=fun i h h' st k=>by
  obtain⟨⟨old,q⟩,o,q2,c,d⟩:=st
  exact⟨⟨old,k e (by simp) _ q⟩,o,k it (by simp) o q2,c,d⟩
 item:=by
  intro X hP hw hK hc i pins s σ H E I hf st hg
  subst hP hw hK
  obtain⟨⟨old,he⟩,hit⟩:=st
  have D:=Draws.strAscii (prog:=X.prog) (w:=X.w) (A:=X.A.in1) (I.ok.hd hc) it x t
  refine wpAny_pyNext_enum_itemD D he hit hg hne (by simpa using hne) fun u h1 tk hu out hit1 tup sz k1=>?_
  obtain⟨c,u',hc',rfl⟩:=hu
  refine⟨.ref s.heap.objs.size,rfl,wpAny_letOwnedTupleGo_enum out fun h2 he2 sb=>?_⟩
  have lte:=zrz he
  have k2:∀b o,b∉[e,it]->s.heap.get? b=some o->h2.get? b=some o:=fun b o hb q=>by
   have hb':b≠e/\b≠it:=by simpa using hb
   exact(sb.2 b hb'.1).trans (k1 b o hb'.1 hb'.2 q)
  have hit2:h2.IsStrIter it "str_ascii_iterator" x t (i+1):=by
   obtain⟨o,q,a,b⟩:=hit1
   exact⟨o,(sb.2 it (Ne.symm hne)).trans q,a,b⟩
  have J1:Inv X pins σ H { s with heap:=h2,toks:=tk+1 }:=I.zfs (fp:=[e,it]) k2 (fun b hb=>by
   rcases List.mem_cons.mp hb with z | z
   ·rw[z];exact⟨_,he2⟩
   ·have z':b=it:=by simpa using z
    obtain⟨o,q,_⟩:=hit2
    rw[z'];exact⟨o,q⟩) hf
  have zk2:h2.get? s.heap.objs.size=some { cls:=.type "tuple", data:=.seq #[.int i tk,.str ⟨#[c]⟩ u'] }:=(sb.2 _ (Nat.ne_of_gt lte)).trans tup
  have ltc:∀y c,X.env.cells.lookup y=some c->c≠s.heap.objs.size:=fun y c q=>by
   obtain⟨v,o,z,_⟩:=I.cell y c q
   exact zrH (zrz z)
  have ltp:∀p∈X.pn++pins,p.1≠s.heap.objs.size:=fun p hp=>zrH (zrz (I.pin p hp).1)
  have J2:=J1.track (a:=s.heap.objs.size) (o:=.tup [.int (i:Nat),.str ⟨#[c]⟩]) I.fresh (Ne.symm (zrH I.lt)) I.sz ltc ltp ⟨by show 2<=sizeLine;decide,[.int i tk,.str ⟨#[c]⟩ u'],.cons ⟨_,rfl⟩ (.cons ⟨_,rfl⟩ .nil),⟨_,zk2,rfl,_,rfl⟩⟩
  refine⟨.ref s.heap.objs.size,_,J2,rfl,⟨_,c,hc',rfl,I.fresh,rfl⟩,⟨⟨.str ⟨#[c]⟩ u',?_⟩,hit2⟩,fun b hb=>?_⟩
  ·have:=he2
   simpa using this
  ·have lb:b<s.heap.objs.size:=by
    rcases List.mem_cons.mp hb with z | z
    ·rw[z];exact lte
    ·have z':b=it:=by simpa using z
     obtain⟨o,q,_⟩:=hit
     rw[z'];exact zrz q
   rw[zB (zrH lb)]
   exact(hf b hb).1
 done:=by
  intro X hP hw hK hc i pins s σ H E I hf st hg
  subst hP hw hK
  have e:i=x.cps.size:=hg
  subst e
  obtain⟨⟨old,he⟩,hit⟩:=st
  obtain⟨f0,f1,f2,f3,f4,f5⟩:=hf it (by simp)
  have D:=Draws.strAscii (prog:=X.prog) (w:=X.w) (A:=X.A.in1) (I.ok.hd hc) it x t
  exact wpAny_pyNext_enum_endD D he hit fun h' eb=>⟨rfl,I.turned (t':=s.toks) (fun b o hb q=>eb b o hb q) f0 f1 f3 f4 f5⟩
 self:=fun _ _ _ _ _ st h=>let ⟨⟨_,he⟩,_⟩:=st;wpAny_pyIter_enum he h
section
variable {X:Cx}
def zla (ta:TA):TI:=fun σ H R=>ta σ H fun vs H1=>∃x:Str,vs=[.str x]/\(x.cps.all fun c=>decide (c<128))=true/\R (zhU x) H1
theorem zdA {l:Expr}{ta:TA}{p pos:Pos}{els:List Expr}{x1}{pt:Pos}(hg:Gl X "enumerate")(hm:X.mg "enumerate"=none)(ha:PA X [l] ta)(hs:starEach [l] X.env=[(false,eval l X.env)]:=by rfl) :
  PI X (.Tuple els x1 pt) (.Call (.Name "enumerate" p) [l] [] pos) (zla ta):=by
 intro pins s σ H R I h
 refine Call_ (Ws I hg hm boot_enumerate (PyProof.Rows.callWith_type1 (wQ (ha pos pins s σ H _ I h) fun us s1 ⟨vs,H1,I1,r1,q1⟩=>?_) hs rfl))
 obtain⟨x,e,asc,q⟩:=q1
 subst e
 obtain⟨u,rfl,ru⟩:=vals1 r1
 obtain⟨t,rfl⟩:=ru
 refine call_enumerate_str fun h' he hit hsz hk=>?_
 have ht:strIterType x="str_ascii_iterator" := by
  unfold strIterType
  rw[if_pos asc]
 rw[ht] at hit
 have J:Inv X pins σ H1 { s1 with heap:=h',toks:=s1.toks }:=I1.kept hk
 refine wpAny_pyIter_enum he ?_
 refine⟨s1.heap.objs.size+1,[s1.heap.objs.size+1,s1.heap.objs.size],_,_,H1,rfl,J,zeN x t _ _ (Nat.ne_of_gt (Nat.lt_succ_self _)),⟨⟨_,he⟩,hit⟩,fun b hb=>?_,q⟩
 have gb:s1.heap.objs.size<=b:=by
  rcases List.mem_cons.mp hb with z | z
  ·rw[z];exact Nat.le_succ _
  ·have z':b=s1.heap.objs.size:=by simpa using z
   rw[z'];exact zrI _
 exact I1.zeh gb (I1.hok.fresh gb)
end
def zmG (i:Nat)(wi:TI)(xs:List Str)(js:List Nat)(g:TG)(tt:TT)(te:TE):TS:=fun D σ H=>zkK wi xs js g tt te σ H fun v H1=>D.nx (σ.set i (some v)) H1
theorem zgt {X:Cx}{sc vX:Scope}{xs:List Str}{js:List Nat}{tg:Expr}{g:TG}{elt iter:Expr}{pos:Pos}{ifs:List Expr}{wi:TI}{tt:TT}{te:TE}{i:Nat}{y:Str}{py spos:Pos}(hN:X.N.Nodup)(hy:X.N[i]?=some y)(hl:Loc X.env.scope y)(hf:X.fn y=true\/X.env.scope.names.lookup y=some .local)
  (Xi:X.env.scope=vX)(L:zc6 vX sc xs (js.map fun j=>X.N.getD j ""))(hc:X.calm=true)(hi:PI X tg iter wi)(hg:∀(cl:List (Str×Addr)) (C:Addr) (s₂:Shared) (H₂:Hp) (fp:List Addr),PG (X.blk sc cl C (Um X xs js) s₂ H₂ fp) tg g)(hjs:∀j∈js,j<X.N.length)
  (ht:∀(cl:List (Str×Addr)) (C:Addr) (s₂:Shared) (H₂:Hp) (fp:List Addr) (pins:List (Addr×Obj)) (s':Shared) (σ':St) (H':Hp) (Q:Bool->Hp->Prop),Inv (X.blk sc cl C (Um X xs js) s₂ H₂ fp) pins σ' H' s'->tt σ' H' Q ->
   wpAny (model X.prog X.w) X.A (Yh ifs (compEnvC sc cl C X.env)) (TP (X.blk sc cl C (Um X xs js) s₂ H₂ fp) pins σ' Q) (fun _ _=>False) s')
  (he:∀(cl:List (Str×Addr)) (C:Addr) (s₂:Shared) (H₂:Hp) (fp:List Addr),PE (X.blk sc cl C (Um X xs js) s₂ H₂ fp) elt te)
  (hsw:swapsWith (.ListComp elt [⟨tg,iter,ifs,0⟩] sc pos) (some (.Name y py)) spos.line X.env=pure true)(hs:∀x,foldedSetIterable iter X.env x=pure x:=by intro _;rfl) :
  PS X (.Assign [.Name y py] (.ListComp elt [⟨tg,iter,ifs,0⟩] sc pos) spos) (zmG i wi xs js g tt te):=by
 intro pins s σ H D I h
 rw[exec_Assign_Name_used _ _ _ _ hsw]
 refine wpAny_bind (wpAny_standAt (wpAny_bind ?_))
 show wpAny _ _ (do let _ <-comprehension (.ListComp elt [⟨tg,iter,ifs,0⟩] sc pos) sc X.env _ (newList []) false (eval iter X.env) (some (assign (.Name y py) X.env))) _ _ s
 have pg:=yU (X:=X) (i:=i) (x:=y) (pos:=py) hN hy hl hf
 refine wpAny_bind (wpAny_mono (Jx (use:=some (assign (.Name y py) X.env)) (QQ:=fun _ z=>SP X pins D .next z) (Fin:=fun ys H=>∀p,H p=none->D.nx (σ.set i (some (.ref p))) (upd H p (.lst ys))) Xi L (rd:=Calm) (fun _ _ _ _ _ _ _=>hc) hi hg hjs ht he hs I h fun A C s5 H5 ys its k m5 J oD oC hDC p1 vs z hn fin=>?_) (fun _ z hq=>wpAny_pure (wpAny_pure hq)) fun _ _ e=>e)
 have J1:Inv X pins σ (upd H5 A (.lst ys)) s5:=J.track oD.free oD.loc oD.new oD.cel oD.pin ⟨z,its,k,vs,p1⟩
 obtain⟨oc,es,ep,hC,hd,hr⟩:=hn
 have Vw:∀v,oc.data≠.cell v:=fun v q=>by rw[hd] at q;cases q
 have hCA:C≠A:=Ne.symm hDC
 have fC:(upd H5 A (.lst ys)) C=none:=by rw[zB hCA];exact oC.free
 have J2:Inv X (pins++[(C,oc)]) σ (upd H5 A (.lst ys)) s5:=J1.YJ fun p hp=>(List.mem_append.mp hp).elim (fun q=>J1.pin p (zrJ _ q)) fun q=>by
  have e:p=(C,oc):=by simpa using q
  subst e
  exact⟨hC,fC,oC.loc,oC.fs,Vw⟩
 refine wpAny_mono (pg _ s5 σ _ (.ref A) (.ref A) (fun σ6 H6=>σ6=σ.set i (some (.ref A))/\H6=upd H5 A (.lst ys)) J2 rfl ⟨rfl,rfl⟩) (fun _ s6 ⟨σ6,H6,I6,e1,e2⟩=>?_) fun _ _ e=>e
 subst e1 e2
 obtain⟨c1,c2,_⟩:=I6.pin (C,oc) (zrJ _ (zrJ _ (by simp)))
 refine⟨m5,⟨oc,es,ep,c1,hd,hr⟩,fun h' hsb=>?_⟩
 have J3:Inv X pins (σ.set i (some (.ref A))) (upd H5 A (.lst ys)) s6:=I6.YJ fun p hp=>I6.pin p (zrJ _ (List.mem_append_left _ hp))
 have J4:Inv X pins (σ.set i (some (.ref A))) (upd H5 A (.lst ys)) { s6 with heap:=h',toks:=s6.toks }:=J3.turned (it:=C) (fun b o hb e=>hsb.extBut b o hb e) c2 oC.loc (.inr oC.new) oC.cel oC.pin
 exact⟨_,_,J4,fin A oD.free⟩
theorem zeO {X:Cx}{sc vX:Scope}{x y:Str}{js:List Nat}{elt iter c:Expr}{px py pt pos:Pos}{x1:Nat}{wi:TI}{te:TE}{tt:TT}{i:Nat}{z:Str}{pz spos:Pos}(hN:X.N.Nodup)(hz:X.N[i]?=some z)(hl:Loc X.env.scope z)(hf:X.fn z=true\/X.env.scope.names.lookup z=some .local)(Xi:X.env.scope=vX)(L:zfH vX sc x y (js.map fun j=>X.N.getD j ""))(hc:X.calm=true)(hi:PI X (.Tuple [.Name x px,.Name y py] x1 pt) iter wi)(hjs:∀j∈js,j<X.N.length)
  (ht:∀(cl:List (Str×Addr)) (C:Addr) (s₂:Shared) (H₂:Hp) (fp:List Addr),PT (X.blk sc cl C (Um X [x,y] js) s₂ H₂ fp) c tt)
  (he:∀(cl:List (Str×Addr)) (C:Addr) (s₂:Shared) (H₂:Hp) (fp:List Addr),PE (X.blk sc cl C (Um X [x,y] js) s₂ H₂ fp) elt te)
  (hsw:swapsWith (.ListComp elt [⟨.Tuple [.Name x px,.Name y py] x1 pt,iter,[c],0⟩] sc pos) (some (.Name z pz)) spos.line X.env=pure true)(hs:∀x,foldedSetIterable iter X.env x=pure x:=by intro _;rfl) :
  PS X (.Assign [.Name z pz] (.ListComp elt [⟨.Tuple [.Name x px,.Name y py] x1 pt,iter,[c],0⟩] sc pos) spos) (zmG i wi [x,y] js (zgP X.K 2 (Qv (XQ 0) (Qv (XQ 1) zgO))) tt te) :=
 zgt hN hz hl hf Xi L.g hc hi (fun cl C s₂ H₂ fp=>zfG (X:=X.blk sc cl C (Um X [x,y] js) s₂ H₂ fp) hc L.nd rfl rfl (lookup_relabel_local L.hx) (lookup_relabel_local L.hy)) hjs (fun cl C s₂ H₂ fp pins s' σ' H' Q I h=>wpAny_tests_one (ht cl C s₂ H₂ fp pins s' σ' H' Q I h)) he hsw hs
theorem zhV {K:Frag}{x:Str}{σ:St}{js:List Nat}{tt:TT}{te:TE}{H:Hp}{Qf:Addr->Hp->List V->Prop}{u v:Str}(Pv:Nat->List V->Hp->Prop)(h0:Pv 0 [] H)(hz:x.cps.size<=sizeLine)(hl:∀i ys H,Pv i ys H->ys.length<=i)
  (hs:∀(i:Nat) (c:Nat) ys H (p:Addr) (Q1:V->Hp->Prop) (Q2:Hp->Prop),x.cps[i]?=some c->Pv i ys H->H p=none->(∀z H3,Pv (i+1) (ys++[z]) H3->Q1 z H3)->(∀H2,Pv (i+1) ys H2->Q2 H2) ->
   tt (lcT σ js [some (.int (i:Nat)),some (.str ⟨#[c]⟩)]) (upd H p (.tup [.int (i:Nat),.str ⟨#[c]⟩])) fun b H2=>if b=true then te (lcT σ js [some (.int (i:Nat)),some (.str ⟨#[c]⟩)]) H2 Q1 else Q2 H2)
  (hd:∀ys H p,Pv x.cps.size ys H->H p=none->Qf p H ys) :
  ∃W:Nat->Nat->List V->Hp->Prop,(∃m,W 0 m [] H)/\∀i m zs H,W i m zs H ->
   ((zhU x).stop i H/\∀p,H p=none->Qf p H zs) \/
   ((zhU x).go i H/\zs.length<sizeLine/\∀w H',(zhU x).Qs i H w H'->∀o0:List (Option V),o0.length=[u,v].length->zgP K 2 (Qv (XQ 0) (Qv (XQ 1) zgO)) w (lcT σ js o0) H' fun σ2 H1=>∃o1,σ2=lcT σ js o1/\o1.length=[u,v].length/\tt σ2 H1 fun b H2 =>
    if b=true then te σ2 H2 fun v H3=>∃m',m'<m/\W (i+1) m' (zs++[v]) H3 else ∃m',m'<m/\W (i+1) m' zs H2):=by
 refine⟨fun i m ys H=>m=x.cps.size-i/\i<=x.cps.size/\Pv i ys H,⟨x.cps.size,by simp,zrP _,h0⟩,?_⟩
 rintro i m ys H ⟨rfl,hi,pv⟩
 have hy:=hl i ys H pv
 by_cases hlt:i<x.cps.size
 ·refine .inr ⟨hlt,by omega,fun w H' y o0 l0=>?_⟩
  obtain⟨p,c,hc,rfl,hp,rfl⟩:=y
  have eσ:((lcT σ js o0).set 0 (some (.int (i:Nat)))).set 1 (some (.str ⟨#[c]⟩))=lcT σ js [some (.int (i:Nat)),some (.str ⟨#[c]⟩)]:=by
   match o0,l0 with
   | [a0,a1],_=>rfl
  refine⟨p,_,rfl,vp.of zj,rfl,_,_,rfl,_,_,rfl,rfl,[some (.int (i:Nat)),some (.str ⟨#[c]⟩)],eσ,rfl,?_⟩
  rw[eσ]
  exact hs i c ys H p _ _ hc pv hp (fun z H3 p3=>⟨_,Nat.sub_lt_sub_left hlt (Nat.lt_succ_self i),rfl,hlt,p3⟩) (fun H2 p2=>⟨_,Nat.sub_lt_sub_left hlt (Nat.lt_succ_self i),rfl,hlt,p2⟩)
 ·have e:i=x.cps.size:=by omega
  subst e
  exact .inl ⟨rfl,fun p hp=>hd ys H p pv hp⟩
section
variable {X:Cx}
theorem zfO:∀{xs:List Str} {l:List Value},Vals (xs.map V.str) l->∃ps:List (Str×Tok),l=strValues ps/\ps.map (·.1)=xs
 | [],_,.nil=>⟨[],rfl,rfl⟩
 | x::xs,_,.cons r rs=>by
  obtain⟨ps,e,e2⟩:=zfO rs
  obtain⟨t,rfl⟩:=r
  exact⟨(x,t)::ps,by rw[e];rfl,by rw[zrR,e2]⟩
end
end L2
namespace uU
open PySem L2 yF
abbrev Cb:=List (Option Bool)
def SN:Option Bool->Nat
 | none=>45
 | some false=>48
 | some true=>49
def cbS (q:Cb):Str:=⟨(q.map SN).toArray⟩
theorem zjo:∀{a b:Option Bool},SN a=SN b->a=b:=fun {a b} h=>by
 cases a with
 | none=>cases b with
  | none=>rfl
  | some y=>cases y<;>exact absurd h (by decide)
 | some x=>cases b with
  | none=>cases x<;>exact absurd h (by decide)
  | some y=>cases x<;>cases y<;>first | rfl | exact absurd h (by decide)
theorem Tc (q:Cb):(cbS q).cps.size=q.length:=by
 show(q.map SN).toArray.size=_
 simp
theorem uz (q:Cb):(cbS q).length=q.length:=Tc q
theorem Px (q:Cb):(cbS q).cps.toList=q.map SN:=rfl
theorem zcg (q:Cb):((cbS q).cps.all fun c=>decide (c<128))=true:=by
 rw[Array.all_eq_true_iff_forall_mem]
 intro c hc
 have hc:c∈(q.map SN).toArray:=hc
 rw[List.mem_toArray] at hc
 obtain⟨s,_,rfl⟩:=List.mem_map.mp hc
 exact decide_eq_true (by cases s with
  | none=>decide
  | some b=>cases b<;>decide)
theorem zhW {q:Cb}{i c:Nat}(h:(cbS q).cps[i]?=some c):∃s,q[i]?=some s/\c=SN s:=by
 have h:(q.map SN).toArray[i]?=some c:=h
 rw[List.getElem?_toArray,zru] at h
 cases e:q[i]? with
 | none=>rw[e] at h;cases h
 | some s=>rw[e] at h;exact⟨s,rfl,(zrX h).symm⟩
theorem zjp {q:Cb}{i:Nat}{s:Option Bool}(h:q[i]?=some s):(cbS q).cps.toList[i]?=some (SN s):=by
 rw[Px,zru,h];rfl
theorem Jd {q r:Cb}(h:cbS q=cbS r):q=r:=by
 have:q.map SN=r.map SN:=by
  have e:=congrArg (fun x:Str=>x.cps.toList) h
  exact e
 exact map_inj' this
where
 map_inj':∀{q r:Cb},q.map SN=r.map SN->q=r
  | [],[],_=>rfl
  | [],_::_,h=>by cases h
  | _::_,[],h=>by cases h
  | a::q,b::r,h=>by
   rw[zrR,zrR] at h
   injection h with h1 h2
   rw[zjo h1,map_inj' h2]
theorem zch (q r:Cb):cbS q++cbS r=cbS (q++r):=by
 show(⟨(q.map SN).toArray++(r.map SN).toArray⟩:Str)=⟨((q++r).map SN).toArray⟩
 rw[zrG,List.append_toArray]
theorem dash:Str.ofString "-"=cbS [none]:=by decide +kernel
theorem sr1 {a b:Nat}(h:a<=b):sliceRange (a:Int) (b:Int) 1=List.range' a (b-a):=by
 unfold sliceRange
 have e:(if (1:Int) > 0 then (if (a:Int)<b then ((b:Int)-a+1-1) / 1 else 0) else (if (a:Int) > b then ((a:Int)-b-1-1) / (-1) else 0)).toNat=b-a:=by
  rw[if_pos (by decide)]
  split
  ·rw[Int.ediv_one];omega
  ·show(0:Int).toNat=_
   rw[Int.toNat_zero];omega
 dsimp only
 rw[e,List.range'_eq_map_range]
 refine List.map_congr_left fun k _=>?_
 omega
theorem zdB (xs:List Nat):∀(a m:Nat),a+m<=xs.length->(List.range' a m).filterMap (xs[·]?)=(xs.drop a).take m
 | a,0,_=>by simp
 | a,m+1,h=>by
  rw[List.range'_succ,List.filterMap_cons,zrt (by omega)]
  dsimp only
  rw[zdB xs (a+1) m (by omega),List.drop_eq_getElem_cons (by omega:a<xs.length),List.take_succ_cons]
theorem zdC {x:Str}{lo hi:Option Int}{a b:Nat}(h:a<=b)(hb:b<=x.length)(e:Builtin.Str.strSliceIndices lo hi 1 x.length=sliceRange (a:Int) (b:Int) 1):Txt.slice x lo hi=⟨((x.cps.toList.drop a).take (b-a)).toArray⟩:=by
 unfold Txt.slice
 rw[e,sr1 h]
 have ls:x.cps.toList.length=x.length:=Array.length_toList
 split
 ·rename_i w
  have w2:(List.range' a (b-a)).length=x.length:=by simpa using w
  rw[List.length_range'] at w2
  have a0:a=0:=by omega
  have bn:b=x.length:=by omega
  subst a0
  rw[List.drop_zero,List.take_of_length_le (by omega)]
 ·congr 2
  have:=zdB x.cps.toList a (b-a) (by omega)
  rw[<-this]
  exact congrArg (fun f=>List.filterMap f (List.range' a (b-a))) (funext fun i=>(Array.getElem?_toList).symm)
theorem zeP {x:Str}{i:Nat}(h:i<=x.length):Txt.slice x none (some (i:Int))=⟨(x.cps.toList.take i).toArray⟩:=by
 have:=zdC (x:=x) (lo:=none) (hi:=some (i:Int)) (a:=0) (b:=i) (zrP _) h (by
  unfold Builtin.Str.strSliceIndices
  dsimp only
  simp only[show(1:Int) > 0 by decide,if_true]
  rw[if_neg (by omega:¬(i:Int)<0)]
  congr 1
  omega)
 rw[List.drop_zero,Nat.sub_zero] at this
 exact this
theorem zeQ {x:Str}{i:Nat}(h:i<=x.length):Txt.slice x (some (i:Int)) none=⟨(x.cps.toList.drop i).toArray⟩:=by
 have:=zdC (x:=x) (lo:=some (i:Int)) (hi:=none) (a:=i) (b:=x.length) h (zrI _) (by
  unfold Builtin.Str.strSliceIndices
  dsimp only
  simp only[show(1:Int) > 0 by decide,if_true]
  rw[if_neg (by omega:¬(i:Int)<0)]
  congr 1
  omega)
 rw[List.take_of_length_le (by rw[List.length_drop];have:x.cps.toList.length=x.length:=Array.length_toList;omega)] at this
 exact this
theorem zjq {q:Cb}{i:Nat}(h:i<=q.length):Txt.slice (cbS q) none (some (i:Int))=cbS (q.take i):=by
 rw[zeP (by rw[uz];exact h),Px,<-List.map_take]
 rfl
theorem zjr {q:Cb}{i:Nat}(h:i<=q.length):Txt.slice (cbS q) (some (i:Int)) none=cbS (q.drop i):=by
 rw[zeQ (by rw[uz];exact h),Px,<-List.map_drop]
 rfl
def YG (q:Cb)(b:Nat):Bool:=(List.range q.length).all fun i=>match q.getD i none with
 | none=>true
 | some v=>b.testBit i==v
def Mw (q:Cb):List Nat:=(List.range q.length).filter fun i=>(q.getD i none).isSome
def vlC (q:Cb):List Bool:=(Mw q).map fun i=>(q.getD i none).getD false
theorem zeR {q:Cb}:∀i∈Mw q,i<q.length:=fun i h=>List.mem_range.mp (List.mem_filter.mp h).1
theorem zlb (q:Cb)(b:Nat):hav ((Mw q).zip (vlC q)) b=YG q b:=by
 rw[zr8]
 unfold hav YG
 rw[zrW,zrW]
 have ez:(Mw q).zip (vlC q)=(Mw q).map fun i=>(i,(q.getD i none).getD false):=by
  unfold vlC
  rw[List.zip_map_right,List.zip_eq_zipWith,List.zipWith_self,zr4]
  rfl
 constructor
 ·intro h i hi
  cases e:q.getD i none with
  | none=>rfl
  | some v =>
   have:=h (i,v) (by rw[ez];exact List.mem_map.mpr ⟨i,List.mem_filter.mpr ⟨hi,by rw[e];rfl⟩,by rw[e];rfl⟩)
   exact this
 ·intro h x hx
  rw[ez] at hx
  obtain⟨i,hi,rfl⟩:=List.mem_map.mp hx
  obtain⟨h1,h2⟩:=List.mem_filter.mp hi
  have:=h i h1
  cases e:q.getD i none with
  | none=>rw[e] at h2;cases h2
  | some v=>rw[e] at this;exact this
end uU
namespace L2
open PySem PySem.Spec PyProof.Rows PySem.Builtin PySem.Builtin.Str uU
section
variable {X:Cx}
theorem zbw:∀(q:Cb) (acc:Array Nat),(q.map fun s=>cbS [s]).foldl (fun acc p=>acc++(Str.ofString "").cps++p.cps) acc=acc++(q.map SN).toArray
 | [],acc=>by simp
 | s::q,acc=>by
  rw[zrR,List.foldl_cons,zbw q]
  have e:(Str.ofString "").cps=#[]:=by decide +kernel
  rw[e,Array.append_empty]
  show acc ++ #[SN s]++_=_
  rw[zrR]
  apply Array.toList_inj.mp
  simp
theorem zhX (q:Cb):glued (Str.ofString "") (q.map fun s=>cbS [s])=cbS q:=by
 cases q with
 | nil=>rfl
 | cons s q =>
  unfold glued
  rw[zrR,List.drop_succ_cons,List.drop_zero,zbw]
  show(⟨#[SN s]++(q.map SN).toArray⟩:Str)=⟨((s::q).map SN).toArray⟩
  congr 1
  apply Array.toList_inj.mp
  simp
theorem zjt (q:Cb):∀(n:Nat),(q.map fun s=>cbS [s]).foldl (fun a x=>a+x.length+(Str.ofString "").length) n=n+q.length:=by
 have e:(Str.ofString "").length=0:=by decide +kernel
 induction q with
 | nil=>intro n;rfl
 | cons s q ih =>
  intro n
  rw[zrR,List.foldl_cons,ih,e,uz]
  show n+1+0+q.length=n+(q.length+1)
  omega
def zlc (K:Frag):V->List V->Hp->VK->Prop:=fun x vs H Q=>∃(l:Addr) (q:Cb),x=.str "" /\ vs=[.ref l]/\zX K H l (q.map fun s=>V.str (cbS [s]))/\q.length<=1000/\Q (.str (cbS q)) H
theorem zhY:MtM X "str.join" (zlc X.K):=by
 intro pins s σ H x vs v us Q I rx rv h
 obtain⟨l,c,rfl,rfl,hq,hc,q⟩:=h
 obtain⟨t,rfl⟩:=rx
 obtain⟨u,rfl,ru⟩:=rv.one
 cases ru
 obtain⟨its,r',pl,hz⟩:=I.list hq
 have ev:(c.map fun s=>V.str (cbS [s]))=(c.map fun s=>cbS [s]).map V.str:=by rw[zr4];rfl
 rw[ev] at r'
 obtain⟨ps,rfl,eps⟩:=zfO r'
 refine call_meets PySem.F.slot_str_join (typeIs_str s "" t) PySem.F.entry_str_join (PySem.F.args_str_join_2 _ _) (meets_str_join_list "" t l ps ?_) ⟨pl.isList,?_⟩
 ·rw[eps,List.foldl_toArray,zjt]
  unfold tooLong
  rw[sizeLine_eq]
  exact decide_eq_false (by omega)
 ·cases ps with
  | nil =>
   have e:c=[]:=by
    have:=congrArg List.length eps
    rw[zrs,zrs] at this
    exact List.length_eq_zero_iff.mp this.symm
   subst e
   exact⟨by decide,.str (cbS []),H,I.tok _,⟨_,rfl⟩,q⟩
  | cons p ps =>
   cases ps with
   | nil =>
    obtain⟨s0,rfl⟩:∃s0,c=[s0]:=by
     cases c with
     | nil=>exact absurd (congrArg List.length eps) (by simp)
     | cons s0 c =>
      cases c with
      | nil=>exact⟨s0,rfl⟩
      | cons _ _=>exact absurd (congrArg List.length eps) (by simp)
    have e:p.1=cbS [s0]:=(List.cons.inj eps).1
    obtain⟨p1,p2⟩:=p
    have e:p1=cbS [s0]:=e
    subst e
    exact⟨.str (cbS [s0]),H,I,⟨p2,rfl⟩,q⟩
   | cons p2 ps =>
    have e:joinMade "" (p::p2::ps)=Made.str (cbS c):=by
     show Made.str (glued "" ((p::p2::ps).map (·.1)))=_
     rw[eps]
     exact congrArg Made.str (zhX c)
    rw[e]
    exact⟨by rw[uz,sizeLine_eq];omega,.str (cbS c),H,I.tok _,⟨_,rfl⟩,q⟩
def zmH:R2:=fun x y H Q=>∃n:Nat,x=.str "-" /\ y=.int (n:Nat)/\n<=8/\Q (.str (cbS (List.replicate n none))) H
theorem zju:∀n:Fin 9,MulOk (Str.ofString "-") ((n:Nat):Int):=by
 intro n
 refine⟨?_,?_,?_⟩<;>revert n<;>decide +kernel
theorem zjv:∀n:Fin 9,Txt.mul (Str.ofString "-") ((n:Nat):Int)=cbS (List.replicate n none):=by decide +kernel
theorem zjw:Uq X (binaryOp .Mult) zmH:=by
 intro pins s σ H x y v u Q I rx ry h
 obtain⟨n,rfl,rfl,hn,q⟩:=h
 obtain⟨t,rfl⟩:=rx
 obtain⟨t',rfl⟩:=ry
 refine SB.mul (zju ⟨n,by omega⟩) fun t2 k=>?_
 rw[zjv ⟨n,by omega⟩]
 exact⟨.str (cbS (List.replicate n none)),H,I.tok _,⟨_,rfl⟩,q⟩
end
section
variable {K:Frag}{σ:St}{js:List Nat}{te:TE}{H:Hp}{Qf:Addr->Hp->List V->Prop}
theorem zjx {x:Str}(f:V->V)(hz:x.cps.size<=sizeLine)
  (hs:∀(v:V) H' (Q:V->Hp->Prop),v∈sgs x->Same H H'->(∀H3,Same H H3->Q (f v) H3)->te (Yg σ js (some v)) H' Q)
  (hd:∀H' l,Same H H'->H' l=none->Qf l H' ((sgs x).map f)) :
  ∃W:Nat->Nat->List V->Hp->Prop,(∃m,W 0 m [] H)/\∀i m ys H,W i m ys H ->
   ((Its x).stop i H/\∀p,H p=none->Qf p H ys) \/
   ((Its x).go i H/\ys.length<sizeLine/\∀v H',(Its x).Qs i H v H'->Vx (Yg σ js (some v)) H' fun b H2 =>
    if b=true then te (Yg σ js (some v)) H2 fun v H3=>∃m',m'<m/\W (i+1) m' (ys++[v]) H3 else ∃m',m'<m/\W (i+1) m' ys H2):=by
 have ls:(sgs x).length=x.cps.size:=by unfold sgs;rw[zrs];exact Array.length_toList
 refine⟨fun i m ys H'=>m=x.cps.size-i/\i<=x.cps.size/\Same H H'/\ys=((sgs x).take i).map f,⟨_,rfl,zrP _,Same.refl _,rfl⟩,?_⟩
 rintro i m ys H1 ⟨rfl,hi,g,rfl⟩
 by_cases hlt:i<x.cps.size
 ·refine .inr ⟨hlt,by rw[zrs,zrQ];omega,fun v H' y=>?_⟩
  obtain⟨e,c,hc,rfl⟩:=y
  subst e
  have hb:(sgs x)[i]?=some (.str ⟨#[c]⟩):=by
   unfold sgs
   rw[zru,Array.getElem?_toList,hc]
   rfl
  refine zn8 (zaC (hs _ _ _ (zrx hb) g fun H3 g3=>⟨_,Nat.sub_lt_sub_left hlt (Nat.lt_succ_self i),rfl,hlt,g3,?_⟩))
  rw[zZ hb,zrG]
  rfl
 ·have e:i=x.cps.size:=by omega
  subst e
  refine .inl ⟨rfl,fun l hl=>?_⟩
  rw[<-ls,zrV]
  exact hd _ l g hl
end
end L2
namespace uU
open PySem L2 yF
def asc (x:Str):Prop:=(x.cps.all fun c=>decide (c<128))=true
def zfP (n:Nat)(x:Str):Bool:=decide (x.length=n)&&x.cps.toList.all fun c=>decide (c=45\/c=48\/c=49)
theorem zhZ (n:Nat)(q:Cb):zfP n (cbS q)=decide (q.length=n):=by
 unfold zfP
 rw[uz,Px]
 have:((q.map SN).all fun c=>decide (c=45\/c=48\/c=49))=true:=by
  rw[zrW]
  intro c hc
  obtain⟨s,_,rfl⟩:=List.mem_map.mp hc
  cases s with
  | none=>decide
  | some b=>cases b<;>decide
 rw[this,Bool.and_true]
def inB (n:Nat)(f:Nat->Bool)(q:Cb):Bool:=(List.range (2^n)).all fun b=>!YG q b||f b
theorem YS {n:Nat}{f:Nat->Bool}{q:Cb}:inB n f q=true↔∀b,b<2^n->YG q b=true->f b=true:=by
 unfold inB
 rw[zrW]
 constructor
 ·intro h b hb c
  have:=h b (List.mem_range.mpr hb)
  rw[c] at this
  simpa using this
 ·intro h b hb
  cases c:YG q b with
  | false=>rfl
  | true=>rw[h b (List.mem_range.mp hb) c];rfl
def wid (q:Cb):List Cb:=(Mw q).map fun i=>q.set i none
def vQ (n:Nat)(f:Nat->Bool)(q:Cb):Bool:=inB n f q&&!(wid q).any (inB n f)
theorem zld {n R:Nat}{f:Nat->Bool}(t:zN n R f):decide (R=0)=(List.range (2^n)).all fun b=>!f b:=by
 rw[zr8,decide_eq_true_iff,zrW]
 constructor
 ·intro h b hb
  have:=t b
  rw[h,Nat.zero_testBit,decide_eq_true (List.mem_range.mp hb),Bool.true_and] at this
  rw[<-this];rfl
 ·intro h
  refine zjg fun b=>?_
  rw[t b,Nat.zero_testBit]
  by_cases hb:b<2^n
  ·have:=h b (List.mem_range.mpr hb)
   rw[decide_eq_true hb,Bool.true_and]
   cases e:f b with
   | false=>rfl
   | true=>rw[e] at this;cases this
  ·rw[decide_eq_false hb,Bool.false_and]
theorem zeS {n R:Nat}{f:Nat->Bool}{q:Cb}(t:zN n R fun b=>YG q b&&!f b):decide (R=0)=inB n f q:=by
 rw[zld t]
 unfold inB
 refine congrArg (fun g=>(List.range (2^n)).all g) (funext fun b=>?_)
 cases YG q b<;>cases f b<;>rfl
theorem zjy (c:Nat):inV (.str ⟨#[c]⟩) ((["-", "0", "1"]:List Str).map V.str)=decide (c=45\/c=48\/c=49):=by
 have e:(["-", "0", "1"]:List Str)=[⟨#[45]⟩,⟨#[48]⟩,⟨#[49]⟩]:=by decide +kernel
 rw[e,zr8,decide_eq_true_iff,zfK,List.contains_iff_mem]
 simp
theorem zdD {q:Cb}{i:Nat}{s:Option Bool}(h:q[i]?=some s):((Mw q).filter fun j=>decide (j<i+1))=((Mw q).filter fun j=>decide (j<i))++(if s.isSome then [i] else []):=by
 have hi:i<q.length:=(zrv.mp h).1
 have gd:q.getD i none=s:=by rw[zrF,h];rfl
 have key:∀m,m<=q.length->((Mw q).filter fun j=>decide (j<m))=(List.range m).filter fun i=>(q.getD i none).isSome:=fun m hm=>by
  unfold Mw
  rw[List.filter_filter]
  have e:List.range q.length=List.range m++List.range' m (q.length-m):=by
   have z:=List.range'_append_1 (s:=0) (m:=m) (n:=q.length-m)
   rw[Nat.zero_add] at z
   rw[List.range_eq_range',List.range_eq_range',z]
   congr 1
   omega
  rw[e,zr6]
  have e1:(List.range m).filter (fun a=>decide (a<m)&&(q.getD a none).isSome)=(List.range m).filter fun i=>(q.getD i none).isSome:=List.filter_congr fun j hj=>by rw[decide_eq_true (List.mem_range.mp hj),Bool.true_and]
  have e2:(List.range' m (q.length-m)).filter (fun a=>decide (a<m)&&(q.getD a none).isSome)=[]:=List.filter_eq_nil_iff.mpr fun j hj=>by
   have:=(List.mem_range'_1.mp hj).1
   rw[decide_eq_false (by omega:¬j<m)]
   simp
  rw[e1,e2,List.append_nil]
 rw[key (i+1) (by omega),key i (by omega),List.range_succ,zr6]
 congr 1
 rw[List.filter_cons,gd,List.filter_nil]
theorem zbx (q:Cb){i:Nat}(h:i<=q.length):((Mw q).filter fun j=>decide (j<i)).length<=i:=by
 have sub:∀j∈(Mw q).filter fun j=>decide (j<i),j∈List.range i:=fun j hj=>List.mem_range.mpr (of_decide_eq_true (List.mem_filter.mp hj).2)
 have nd:((Mw q).filter fun j=>decide (j<i)).Nodup:=(List.nodup_range.filter _).filter _
 have:=QT nd sub
 rw[zrK] at this
 exact this
theorem zdE {q:Cb}{i:Nat}(h:i∈Mw q):∃v,q[i]?=some (some v):=by
 obtain⟨h1,h2⟩:=List.mem_filter.mp h
 have hi:=List.mem_range.mp h1
 rw[zrF,zrt hi] at h2
 rw[zrt hi]
 cases e:q[i] with
 | none=>rw[e] at h2;cases h2
 | some v=>exact⟨v,rfl⟩
section
variable (C D D':Addr)(K:Frag)
inductive Mx (vs:List V)(H:Hp)(Q:VK)(E9:XK):Prop
 | mk (b:Addr) (os:List Str) (rs:List Rm) (F:xu) (x:Str) (_:vs=[.ref b,.str x]) (_:zW C H b os rs F) (_:asc x) (_:x.length<=1000) (_:∀H',Same H H'->Q (.bl (zfP os.length x)) H'):Mx vs H Q E9
inductive Xl (vs:List V)(H:Hp)(Q:VK)(E9:XK):Prop
 | mk (b:Addr) (os:List Str) (rs:List Rm) (F:xu) (q:Cb) (_:vs=[.ref b,.str (cbS q)]) (_:zW C H b os rs F) (_:q.length=os.length) (_:∀H',Same H H'->Q .non H'):Xl vs H Q E9
inductive Td (vs:List V)(H:Hp)(Q:VK)(E9:XK):Prop
 | mk (b l:Addr) (os:List Str) (rs:List Rm) (F:xu) (qs:List Cb) (_:vs=[.ref b,.ref l]) (_:zW C H b os rs F) (_:zX K H l (qs.map fun q=>V.str (cbS q))) (_:(∀q∈qs,q.length=os.length)) (_:∀H',Same H H'->Q .non H'):Td vs H Q E9
inductive W8 (vs:List V)(H:Hp)(Q:VK)(E9:XK):Prop
 | mk (q:Cb) (_:vs=[.str (cbS q)]) (_:q.length<=8) (_:∀(R:Nat) (H':Hp),Same H H'->zN q.length R (YG q)->Q (.int (R:Nat)) H'):W8 vs H Q E9
inductive R6 (vs:List V)(H:Hp)(Q:VK)(E9:XK):Prop
 | mk (b:Addr) (os:List Str) (rs:List Rm) (F:xu) (q:Cb) (_:vs=[.ref b,.str (cbS q)]) (_:zW C H b os rs F) (_:rs.length<=8000000) (_:q.length=os.length) (_:zhG C b os H rs F (fun r=>YG q (bits r os.length)) Q):R6 vs H Q E9
inductive Py (vs:List V)(H:Hp)(Q:VK)(E9:XK):Prop
 | mk (b:Addr) (os:List Str) (rs:List Rm) (F:xu) (k:Nat) (q:Cb) (_:vs=[.ref b,.int (k:Nat),.str (cbS q)]) (_:zW C H b os rs F) (_:k<rs.length) (_:q.length=os.length) (_:∀H',Same H H'->Q (.bl (inB os.length (tB rs k) q)) H'):Py vs H Q E9
inductive SQ (vs:List V)(H:Hp)(Q:VK)(E9:XK):Prop
 | mk (q:Cb) (_:vs=[.str (cbS q)]) (_:q.length<=8) (_:∀(l:Addr) (H':Hp),Same H H'->H l=none->H' l=some (.lst ((wid q).map fun q=>V.str (cbS q)))->Q (.ref l) H'):SQ vs H Q E9
inductive Mz (vs:List V)(H:Hp)(Q:VK)(E9:XK):Prop
 | mk (b:Addr) (os:List Str) (rs:List Rm) (F:xu) (k:Nat) (q:Cb) (_:vs=[.ref b,.int (k:Nat),.str (cbS q)]) (_:zW C H b os rs F) (_:k<rs.length) (_:q.length=os.length) (_:∀H',Same H H'->Q (.bl (vQ os.length (tB rs k) q)) H'):Mz vs H Q E9
end
section
variable (C:Addr)(K:Frag)
inductive MF (vs:List V)(H:Hp)(Q:VK)(E9:XK):Prop
 | mk (c:Int) (n:Nat) (_:vs=[.int c,.int (n:Nat)]) (_:n<=8) (_:∀(q:Cb) (H':Hp),Same H H'->q.length=n->Q (.str (cbS q)) H'):MF vs H Q E9
end
end uU
namespace L2
open PySem
theorem zle {t u:TS}{D:Ends}{σ:St}{H:Hp}(M:St->Hp->Prop)(h1:∀N:St->Hp->Prop,(∀ σ' H',M σ' H'->N σ' H')->t { D with nx:=N } σ H)(h2:∀ σ' H',M σ' H'->u D σ' H'):zlM t u D σ H:=h1 _ h2
theorem ifA {c:Bool}{A B:Prop}(e:c=true)(h:A):if c=true then A else B:=by rw[if_pos e];exact h
theorem ifB {c:Bool}{A B:Prop}(e:c=false)(h:B):if c=true then A else B:=by rw[e,if_neg zrw];exact h
end L2
namespace uU
open PySem L2 yF
open Classical in
noncomputable def zci (F:xu) (H:Hp):Hp:=fun x=>if F x then none else H x
theorem MJ {F:xu}{H:Hp}{x:Addr}{o:HO}(h:H x=some o)(n:¬F x):zci F H x=some o:=by
 unfold zci
 rw[if_neg n]
 exact h
theorem RX.base {C:Addr}{H:Hp}{b:Addr}{os:List Str}{m:Nat}{rs:List Rm}{F:xu}(hB:zW C H b os rs F)(hi:hiN os.length rs<=m):RX C (zci F H) b os m H rs F :=
 ⟨fun x o e=>by
  unfold zci at e
  by_cases z:F x
  ·rw[if_pos z] at e;cases e
  ·rw[if_neg z] at e;exact e,fun x z=>by unfold zci;rw[if_pos z],hB,hi⟩
theorem zjz {C:Addr}{H:Hp}{b:Addr}{os:List Str}{rs:List Rm}{F:xu}(hB:zW C H b os rs F):yH H (zci F H):=fun x xs e=>MJ e fun z=>by
 obtain⟨dx,ml,rl,tl,nd,rv,ts,kvs,h⟩:=hB
 rcases (h.ft x).mp z with rfl | rfl | rfl | rfl | rfl
 ·rw[h.hb] at e;cases e
 ·rw[h.hm] at e;cases e
 ·rw[h.hr] at e;cases e
 ·rw[h.ht] at e;cases e
 ·rw[h.hd] at e;cases e
theorem Led.off {C:Addr}{H:Hp}{b:Addr}{os:List Str}{m:Nat}{rs:List Rm}{F:xu}(hB:zW C H b os rs F)(hl:rs.length<=m):Led (zW C) (zci F H) b os m H rs F :=
 ⟨(RX.base hB (zrI _)).same,(RX.base hB (zrI _)).away,hB,hl⟩
theorem Led.wide {C:Addr}{H0 H:Hp}{b:Addr}{os:List Str}{m m':Nat}{rs:List Rm}{F:xu}(h:Led (zW C) H0 b os m H rs F)(l:m<=m'):Led (zW C) H0 b os m' H rs F:=⟨h.same,h.away,h.bk,zrO h.len l⟩
theorem zcj {n:Nat}{rs rs':List Rm}(B:Bk n rs')(h:hiN n rs'<=hiN n rs+63):rs'.length<=rs.length+79:=by
 have:=zhF B
 have:hiN n rs<=rs.length:=zr1 _ _
 omega
theorem Xk.back {os:List Str}{H:Hp}{rs rs':List Rm}{vs:List V}(h:Xk os H rs' vs)(g:wN rs rs')(l:vs.length<=rs.length):Xk os H rs vs:=by
 obtain⟨xs,rfl⟩:=g
 refine⟨l,fun j v e=>?_⟩
 obtain⟨x,a,b⟩:=h.2 j v e
 have hj:j<vs.length:=(zrv.mp e).1
 rw[zrZ (by omega)] at a
 exact⟨x,a,b⟩
abbrev ext (p:Nat)(q:Cb):Cb:=List.replicate p none++q
theorem X5 {q:Cb}{b:Nat}:YG q b=true↔∀i v,q[i]?=some (some v)->b.testBit i=v:=by
 unfold YG
 rw[zrW]
 constructor
 ·intro h i v e
  have hi:i<q.length:=(zrv.mp e).1
  have y:=h i (List.mem_range.mpr hi)
  rw[zrF,e] at y
  simpa using y
 ·intro h i hi
  rw[zrF]
  cases e:q[i]? with
  | none=>rfl
  | some s =>
   cases s with
   | none=>rfl
   | some v =>
    show(b.testBit i==v)=true
    rw[h i v e]
    simp
theorem J7 {p i:Nat}{q:Cb}{v:Bool}(h:(ext p q)[i]?=some (some v)):p<=i/\q[i-p]?=some (some v):=by
 unfold ext at h
 rcases Nat.lt_or_ge i p with z | z
 ·rw[zrZ (by rw[List.length_replicate];exact z),List.getElem?_replicate,if_pos z] at h
  cases h
 ·rw[List.getElem?_append_right (by rw[List.length_replicate];exact z),List.length_replicate] at h
  exact⟨z,h⟩
theorem zck {p i:Nat}{q:Cb}:(ext p q)[p+i]?=q[i]?:=by
 unfold ext
 rw[List.getElem?_append_right (by rw[List.length_replicate];omega),List.length_replicate,Nat.add_sub_cancel_left]
theorem zfQ {p i:Nat}{q:Cb}{s:Option Bool}:(ext p q).set (p+i) s=ext p (q.set i s):=by
 unfold ext
 rw[List.set_append,List.length_replicate,if_neg (by omega),Nat.add_sub_cancel_left]
theorem Pz {p:Nat}{q:Cb}:ext p (none::q)=ext (p+1) q:=by
 unfold ext
 rw[List.replicate_succ',List.append_assoc]
 rfl
theorem zjA {p:Nat}{q:Cb}:(ext p q).length=p+q.length:=by
 unfold ext
 rw[zrA,List.length_replicate]
theorem xZ {n p:Nat}{f:Nat->Bool}{q:Cb}:vQ n f (ext p q)=true↔inB n f (ext p q)=true/\∀i v,q[i]?=some (some v)->inB n f (ext p (q.set i none))=false:=by
 unfold vQ
 rw[zrU]
 refine and_congr_right fun _=>?_
 rw[Bool.not_eq_true',List.any_eq_false]
 unfold wid
 constructor
 ·intro h i v e
  have hi:i<q.length:=(zrv.mp e).1
  have m:p+i∈Mw (ext p q):=List.mem_filter.mpr ⟨List.mem_range.mpr (by rw[zjA];omega),by rw[zrF,zck,e];rfl⟩
  have y:=h _ (List.mem_map.mpr ⟨_,m,rfl⟩)
  rw[zfQ] at y
  simpa using y
 ·intro h r hr
  obtain⟨i,hi,rfl⟩:=List.mem_map.mp hr
  obtain⟨v,e⟩:=zdE hi
  obtain⟨z,e'⟩:=J7 e
  have y:=h _ _ e'
  have:i=p+(i-p):=by omega
  rw[this,zfQ,y]
  exact zrw
section
variable {n p:Nat}{f:Nat->Bool}
abbrev side (f:Nat->Bool)(p:Nat)(v:Bool):Nat->Bool:=fun b=>f (zE b p v)
abbrev both (f:Nat->Bool)(p:Nat):Nat->Bool:=fun b=>side f p false b&&side f p true b
theorem zcl {q:Cb}{b:Nat}{v:Bool}:YG (ext (p+1) q) (zE b p v)=YG (ext (p+1) q) b:=by
 rw[zr8,X5,X5]
 have:∀i v',(ext (p+1) q)[i]?=some (some v')->(zE b p v).testBit i=b.testBit i:=fun i v' e=>by
  have:=(J7 e).1
  rw[zM,if_neg (by omega)]
 exact⟨fun h i v' e=>by rw[<-this i v' e];exact h i v' e,fun h i v' e=>by rw[this i v' e];exact h i v' e⟩
theorem zcm {q:Cb}{b:Nat}{v:Bool}:YG (ext p (some v::q)) b=(b.testBit p==v&&YG (ext (p+1) q) b):=by
 rw[zr8,zrU,X5,X5,beq_iff_eq]
 constructor
 ·intro h
  refine⟨h p v (by have:=zck (p:=p) (i:=0) (q:=some v::q);rw[Nat.add_zero] at this;rw[this];rfl),fun i v' e=>?_⟩
  obtain⟨z,e'⟩:=J7 e
  refine h i v' ?_
  have:i=p+(i-(p+1)+1):=by omega
  rw[this,zck]
  exact e'
 ·rintro⟨h1,h2⟩ i v' e
  obtain⟨z,e'⟩:=J7 e
  rcases Nat.eq_or_lt_of_le z with y | y
  ·subst y
   rw[Nat.sub_self] at e'
   cases e'
   exact h1
  ·refine h2 i v' ?_
   have e1:i=p+1+(i-(p+1)):=by omega
   rw[e1,zck]
   have e2:i-p=(i-(p+1))+1:=by omega
   rw[e2] at e'
   exact e'
theorem PB (hp:p<n)(q:Cb):inB n f (ext (p+1) q)=inB n (both f p) (ext (p+1) q):=by
 rw[zr8,YS,YS]
 constructor
 ·intro h b hb c
  show(f _&&f _)=true
  rw[h _ (zP hb hp) (by rw[zcl];exact c),h _ (zP hb hp) (by rw[zcl];exact c)]
  rfl
 ·intro h b hb c
  have y:(f (zE b p false)&&f (zE b p true))=true:=h b hb c
  rw[zrU] at y
  have:=yD b p
  cases e:b.testBit p with
  | false=>rw[e] at this;rw[<-this];exact y.1
  | true=>rw[e] at this;rw[<-this];exact y.2
theorem zcn (hp:p<n)(q:Cb)(v:Bool):inB n f (ext p (some v::q))=inB n (side f p v) (ext (p+1) q):=by
 rw[zr8,YS,YS]
 constructor
 ·intro h b hb c
  refine h _ (zP hb hp) ?_
  rw[zcm,zcl,c,zM,if_pos rfl]
  simp
 ·intro h b hb c
  rw[zcm,zrU,beq_iff_eq] at c
  have y:f (zE b p v)=true:=h b hb c.2
  have e:=yD b p
  rw[c.1] at e
  rw[<-e]
  exact y
theorem zlf (q:Cb)(v:Bool)(h:inB n (both f p) q=true):inB n (side f p v) q=true:=by
 rw[YS] at h ⊢
 intro b hb c
 have y:(f (zE b p false)&&f (zE b p true))=true:=h b hb c
 rw[zrU] at y
 cases v
 ·exact y.1
 ·exact y.2
theorem J8 (hp:p<n)(q:Cb):vQ n f (ext p (none::q))=vQ n (both f p) (ext (p+1) q):=by
 rw[Pz,zr8,xZ,xZ,PB hp]
 refine and_congr_right fun _=>⟨fun h i v e=>?_,fun h i v e=>?_⟩
 ·rw[<-PB hp];exact h i v e
 ·rw[PB hp];exact h i v e
theorem R7 (hp:p<n)(q:Cb)(v:Bool):vQ n f (ext p (some v::q))=(vQ n (side f p v) (ext (p+1) q)&&!vQ n (both f p) (ext (p+1) q)):=by
 rw[zr8,zrU,xZ,xZ,zcn hp]
 constructor
 ·rintro⟨h1,h2⟩
  have h0:=h2 0 v rfl
  have h0:inB n f (ext p (none::q))=false:=h0
  rw[Pz,PB hp] at h0
  refine⟨⟨h1,fun i u e=>?_⟩,?_⟩
  ·have y:inB n f (ext p (some v::q.set i none))=false:=h2 (i+1) u e
   rw[zcn hp] at y
   exact y
  ·cases e:vQ n (both f p) (ext (p+1) q) with
   | false=>rfl
   | true=>rw[xZ] at e;rw[e.1] at h0;cases h0
 ·rintro⟨⟨h1,h2⟩,h3⟩
  have nb:inB n (both f p) (ext (p+1) q)=false:=by
   cases e:inB n (both f p) (ext (p+1) q) with
   | false=>rfl
   | true =>
    exfalso
    have:vQ n (both f p) (ext (p+1) q)=true:=xZ.mpr ⟨e,fun i u e'=>by
     cases e2:inB n (both f p) (ext (p+1) (q.set i none)) with
     | false=>rfl
     | true=>have:=zlf _ v e2;rw[h2 i u e'] at this;cases this⟩
    rw[this] at h3
    cases h3
  refine⟨h1,fun i u e=>?_⟩
  cases i with
  | zero =>
   show inB n f (ext p (none::q))=false
   rw[Pz,PB hp]
   exact nb
  | succ i =>
   show inB n f (ext p (some v::q.set i none))=false
   rw[zcn hp]
   exact h2 i u e
end
theorem zh0:∀(q:Cb) (p:Nat),∃b,b<2^(p+q.length)/\YG (ext p q) b=true
 | [],p=>⟨0,Nat.pow_pos (by decide),X5.mpr fun i v e=>by have:=(J7 e).2;cases this⟩
 | s::q,p=>by
  obtain⟨b,h1,h2⟩:=zh0 q (p+1)
  have e1:p+(s::q).length=p+1+q.length:=by rw[zrE];omega
  cases s with
  | none=>exact⟨b,by rw[e1];exact h1,by rw[Pz];exact h2⟩
  | some v=>exact⟨zE b p v,by rw[e1];exact zP h1 (by omega),by rw[zcm,zcl,h2,zM,if_pos rfl];simp⟩
def ltC:Cb->Cb->Prop
 | a::x,b::y=>SN a<SN b\/(a=b/\ltC x y)
 | _,_=>False
theorem zh1:∀{a b:Cb},ltC a b->a≠b
 | a::x,b::y,h=>fun e=>by
  cases e
  rcases h with h | h
  ·exact Nat.lt_irrefl _ h
  ·exact zh1 h.2 rfl
structure Qt (n p:Nat)(f:Nat->Bool)(qs:List Cb):Prop where
 mem:∀q,q∈qs↔q.length=n-p/\vQ n f (ext p q)=true
 up:qs.Pairwise ltC
 len:qs.length<=3^(n-p-1)
theorem Qt.nd {n p:Nat}{f:Nat->Bool}{qs:List Cb}(h:Qt n p f qs):qs.Nodup:=h.up.imp zh1
theorem Qt.none_of {n p:Nat}{f:Nat->Bool}(hp:p<=n)(h:∀b,b<2^n->f b=false){q:Cb}(l:q.length=n-p):vQ n f (ext p q)=false:=by
 cases e:vQ n f (ext p q) with
 | false=>rfl
 | true =>
  rw[xZ] at e
  obtain⟨b,h1,h2⟩:=zh0 q p
  have e1:p+q.length=n:=by omega
  rw[e1] at h1
  have y:=YS.mp e.1 b h1 h2
  rw[h b h1] at y
  cases y
theorem Qt.no {n p:Nat}{f:Nat->Bool}(hp:p<=n)(h:∀b,b<2^n->f b=false):Qt n p f [] :=
 ⟨fun q=>⟨fun z=>(by cases z),fun⟨l,e⟩=>(by rw[Qt.none_of hp h l] at e;cases e)⟩,.nil,zrP _⟩
theorem Qt.yes {n p:Nat}{f:Nat->Bool}(hp:p<=n)(h:∀b,b<2^n->f b=true):Qt n p f [List.replicate (n-p) none]:=by
 have al:∀q,inB n f q=true:=fun q=>YS.mpr fun b hb _=>h b hb
 refine⟨fun q=>?_,List.pairwise_singleton _ _,Nat.pow_pos (by decide)⟩
 rw[List.mem_singleton,xZ]
 constructor
 ·rintro rfl
  refine⟨List.length_replicate,al _,fun i v e=>?_⟩
  rw[List.getElem?_replicate] at e
  split at e<;>cases e
 ·rintro⟨l,_,e⟩
  refine List.ext_getElem? fun i=>?_
  rw[List.getElem?_replicate]
  rcases Nat.lt_or_ge i (n-p) with z | z
  ·rw[if_pos z]
   cases e':q[i]? with
   | none=>rw[List.getElem?_eq_none_iff] at e';omega
   | some s =>
    cases s with
    | none=>rfl
    | some v=>have:=e i v e';rw[al] at this;cases this
  ·rw[if_neg (by omega),List.getElem?_eq_none_iff]
   omega
theorem Qt.nil {n p:Nat}{f:Nat->Bool}{qs:List Cb}(P:Qt n p f qs)(hp:p<=n)(h:∀b,b<2^n->f b=false):qs=[]:=by
 refine List.eq_nil_iff_forall_not_mem.mpr fun q hq=>?_
 obtain⟨l,e⟩:=(P.mem q).mp hq
 rw[Qt.none_of hp h l] at e
 cases e
theorem Qt.step {n p:Nat}{f:Nat->Bool}{E Z O:List Cb}(hp:p<n)(fr:∀i,i<p->Free n f i)(n1:¬∀b,b<2^n->f b=true)(he:Qt n (p+1) (both f p) E)(hz:Qt n (p+1) (side f p false) Z)(ho:Qt n (p+1) (side f p true) O) :
  Qt n p f (E.map (none::·)++(Z.filter fun q=>!E.contains q).map (some false::·)++(O.filter fun q=>!E.contains q).map (some true::·)):=by
 have ed:n-p=n-(p+1)+1:=by omega
 have inE:∀q:Cb,q.length=n-(p+1)->(!E.contains q)=!vQ n (both f p) (ext (p+1) q):=fun q l=>by
  congr 1
  rw[zr8,List.contains_iff_mem,he.mem]
  exact⟨fun h=>h.2,fun h=>⟨l,h⟩⟩
 refine⟨fun q=>?_,?_,?_⟩
 ·rw[List.mem_append,List.mem_append,List.mem_map,List.mem_map,List.mem_map]
  constructor
  ·rintro ((⟨r,hr,rfl⟩ | ⟨r,hr,rfl⟩) | ⟨r,hr,rfl⟩)
   ·obtain⟨l,e⟩:=(he.mem r).mp hr
    exact⟨by rw[zrE,l,ed],by rw[J8 hp];exact e⟩
   ·obtain⟨h1,h2⟩:=List.mem_filter.mp hr
    obtain⟨l,e⟩:=(hz.mem r).mp h1
    rw[inE r l] at h2
    exact⟨by rw[zrE,l,ed],by rw[R7 hp,e,h2];rfl⟩
   ·obtain⟨h1,h2⟩:=List.mem_filter.mp hr
    obtain⟨l,e⟩:=(ho.mem r).mp h1
    rw[inE r l] at h2
    exact⟨by rw[zrE,l,ed],by rw[R7 hp,e,h2];rfl⟩
  ·rintro⟨l,e⟩
   cases q with
   | nil=>rw[ed] at l;cases l
   | cons s r =>
    have lr:r.length=n-(p+1):=by rw[zrE,ed] at l;omega
    cases s with
    | none=>rw[J8 hp] at e;exact .inl (.inl ⟨r,(he.mem r).mpr ⟨lr,e⟩,rfl⟩)
    | some v =>
     rw[R7 hp,zrU] at e
     cases v with
     | false=>exact .inl (.inr ⟨r,List.mem_filter.mpr ⟨(hz.mem r).mpr ⟨lr,e.1⟩,by rw[inE r lr];exact e.2⟩,rfl⟩)
     | true=>exact .inr ⟨r,List.mem_filter.mpr ⟨(ho.mem r).mpr ⟨lr,e.1⟩,by rw[inE r lr];exact e.2⟩,rfl⟩
 ·have one:∀{L:List Cb} (s:Option Bool),L.Pairwise ltC->(L.map (s::·)).Pairwise ltC:=fun {L} s h=>List.pairwise_map.mpr (h.imp fun h=>.inr ⟨rfl,h⟩)
  have two:∀{L M:List Cb} {s t:Option Bool},SN s<SN t->∀x∈L.map (s::·),∀y∈M.map (t::·),ltC x y:=fun {L M s t} h x hx y hy=>by
   obtain⟨a,_,rfl⟩:=List.mem_map.mp hx
   obtain⟨c,_,rfl⟩:=List.mem_map.mp hy
   exact .inl h
  refine List.pairwise_append.mpr ⟨List.pairwise_append.mpr ⟨one _ he.up,one _ (hz.up.filter _),two (by decide)⟩,one _ (ho.up.filter _),fun x hx y hy=>?_⟩
  rcases List.mem_append.mp hx with z | z
  ·exact two (by decide) x z y hy
  ·exact two (by decide) x z y hy
 ·rw[zrA,zrA,zrs,zrs,zrs]
  have l1:=zr1 (fun q=>!E.contains q) Z
  have l2:=zr1 (fun q=>!E.contains q) O
  rcases Nat.eq_or_lt_of_le (show 1<=n-p by omega) with z | z
  ·
   have e0:n-p-1=0:=by omega
   rw[e0]
   have ep:p+1=n:=by omega
   have cz:=vK (n:=n) (f:=side f p false) fun i hi=>Y9 hp fr i (by omega)
   have co:=vK (n:=n) (f:=side f p true) fun i hi=>Y9 hp fr i (by omega)
   have le:=he.len
   have lz:=hz.len
   have lo:=ho.len
   have e1:n-(p+1)-1=0:=by omega
   rw[e1] at le lz lo
   have zkc:side f p false 0=false\/side f p true 0=false:=by
    rcases h0:side f p false 0 with _ | _
    ·exact .inl rfl
    ·rcases h1:side f p true 0 with _ | _
     ·exact .inr rfl
     ·exfalso
      refine n1 fun b hb=>?_
      have e:=yD b p
      have a1:=cz b hb
      have a2:=co b hb
      rw[h0] at a1
      rw[h1] at a2
      cases e':b.testBit p with
      | false=>rw[e'] at e;rw[<-e];exact a1
      | true=>rw[e'] at e;rw[<-e];exact a2
   have eE:E=[]:=he.nil (by omega) fun b hb=>by
    show(side f p false b&&side f p true b)=false
    rw[cz b hb,co b hb]
    rcases zkc with z | z<;>rw[z]<;>simp
   have e3:E.length=0:=by rw[eE];rfl
   rw[Nat.pow_zero] at le lz lo ⊢
   rcases zkc with z | z
   ·have:Z.length=0:=by rw[hz.nil (by omega) fun b hb=>by rw[cz b hb,z]];rfl
    omega
   ·have:O.length=0:=by rw[ho.nil (by omega) fun b hb=>by rw[co b hb,z]];rfl
    omega
  ·have e:n-p-1=n-(p+1)-1+1:=by omega
   rw[e,Nat.pow_succ]
   have:=he.len
   have:=hz.len
   have:=ho.len
   omega
end uU
namespace L2
open PySem PySem.Spec PyProof.Rows
section
variable {K:Frag}{σ:St}{js:List Nat}{tt:TT}{te:TE}{H:Hp}{Qf:Addr->Hp->List V->Prop}
theorem zdF {a:Addr}{α:Type}(c:α->V){ps:List α}(p:α->Bool)(hq:zX K H a (ps.map c))(hz:ps.length<=sizeLine)(hte:∀x H' Q,Q x H'->te (Yg σ js (some x)) H' Q)
  (hs:∀(x:α) H' (Q:Bool->Hp->Prop),x∈ps->Same H H'->(∀H2,Same H H2->Q (p x) H2)->tt (Yg σ js (some (c x))) H' Q)
  (hd:∀H' l,Same H H'->H' l=none->Qf l H' ((ps.filter p).map c)) :
  ∃W:Nat->Nat->List V->Hp->Prop,(∃m,W 0 m [] H)/\∀i m ys H,W i m ys H ->
   ((Itl K a).stop i H/\∀p,H p=none->Qf p H ys) \/
   ((Itl K a).go i H/\ys.length<sizeLine/\∀x H',(Itl K a).Qs i H x H'->tt (Yg σ js (some x)) H' fun b H2 =>
    if b=true then te (Yg σ js (some x)) H2 fun v H3=>∃m',m'<m/\W (i+1) m' (ys++[v]) H3 else ∃m',m'<m/\W (i+1) m' ys H2):=by
 have ln:(ps.map c).length=ps.length:=zrs _
 refine⟨fun i m ys H'=>m=ps.length-i/\i<=ps.length/\Same H H'/\ys=((ps.take i).filter p).map c,⟨_,by rw[Nat.sub_zero],zrP _,Same.refl _,rfl⟩,?_⟩
 rintro i m ys H1 ⟨rfl,hi,g,rfl⟩
 have hy:(((ps.take i).filter p).map c).length<=i:=by
  have:=zr1 p (ps.take i)
  rw[zrQ] at this
  rw[zrs]
  omega
 by_cases hlt:i<ps.length
 ·have hb:ps[i]?=some ps[i]:=zrt hlt
  generalize ps[i]=b at hb
  have hv:(ps.map c)[i]?=some (c b):=by rw[zru,hb];rfl
  refine .inr ⟨⟨_,_,g.seq hq,hv⟩,by omega,fun x H' y=>?_⟩
  obtain⟨e,y⟩:=y
  subst e
  have ex:=y _ (g.seq hq)
  rw[hv] at ex
  cases ex
  refine hs b _ _ (zrx hb) g fun H2 g2=>?_
  cases e:p b with
  | true =>
   rw[if_pos rfl]
   refine hte _ _ _ ⟨_,Nat.sub_lt_sub_left hlt (Nat.lt_succ_self i),rfl,hlt,g2,?_⟩
   rw[zZ hb,zr6,List.filter_cons_of_pos e,zrG]
   rfl
  | false =>
   rw[if_neg zrw]
   refine⟨_,Nat.sub_lt_sub_left hlt (Nat.lt_succ_self i),rfl,hlt,g2,?_⟩
   rw[zZ hb,zr6,List.filter_cons_of_neg (by rw[e];exact zrw),List.filter_nil,List.append_nil]
 ·have e:i=ps.length:=by omega
  subst e
  refine .inl ⟨⟨_,g.seq hq,by rw[ln];exact zrI _⟩,fun l hl=>?_⟩
  rw[zrV]
  exact hd _ l g hl
theorem zco {a:Addr}{α:Type}(c e:α->V){ps:List α}(hq:zX K H a (ps.map c))(hz:ps.length<=sizeLine)
  (hs:∀(x:α) H' (Q:V->Hp->Prop),x∈ps->Same H H'->(∀H3,Same H' H3->Q (e x) H3)->te (Yg σ js (some (c x))) H' Q)
  (hd:∀H' p,Same H H'->H' p=none->Qf p H' (ps.map e)) :
  ∃W:Nat->Nat->List V->Hp->Prop,(∃m,W 0 m [] H)/\∀i m ys H,W i m ys H ->
   ((Itl K a).stop i H/\∀p,H p=none->Qf p H ys) \/
   ((Itl K a).go i H/\ys.length<sizeLine/\∀x H',(Itl K a).Qs i H x H'->Vx (Yg σ js (some x)) H' fun b H2 =>
    if b=true then te (Yg σ js (some x)) H2 fun v H3=>∃m',m'<m/\W (i+1) m' (ys++[v]) H3 else ∃m',m'<m/\W (i+1) m' ys H2):=by
 refine J6 (xs:=ps.map c) (fun i ys H'=>Same H H'/\ys=(ps.take i).map e) ⟨Same.refl _,rfl⟩ (by rw[zrs];exact hz) ?_ ?_ ?_
 ·rintro i ys H' hi ⟨g,rfl⟩
  exact⟨g.seq hq,by rw[zrs,zrQ];omega⟩
 ·rintro i x ys H' Q hx ⟨g,rfl⟩ h
  rw[zru] at hx
  cases e1:ps[i]? with
  | none=>rw[e1] at hx;cases hx
  | some y =>
   rw[e1] at hx
   cases hx
   refine hs y H' Q (zrx e1) g fun H3 g3=>h _ _ ⟨g.trans g3,?_⟩
   rw[zZ e1,zrG]
   rfl
 ·rintro ys H' p ⟨g,rfl⟩ hp
  rw[zrs,zrV]
  exact hd H' p g hp
end
end L2
namespace uU
open PySem L2 yF
abbrev cbV (q:Cb):V:=.str (cbS q)
inductive W9 (d:Nat)(vs:List V)(H:Hp)(Q:VK)(E9:XK):Prop
 | mk (N p n:Nat) (f:Nat->Bool) (_:vs=[.int (N:Nat),.int (p:Nat),.int (n:Nat)]) (_:n<=8) (_:p<=n) (_:n+1<=p+d) (_:zN n N f) (_:∀i,i<p->Free n f i) (_:∀(l:Addr) (qs:List Cb) (H':Hp),Same H H'->H l=none->H' l=some (.lst (qs.map cbV))->Qt n p f qs->Q (.ref l) H'):W9 d vs H Q E9
inductive PJ (C:Addr)(vs:List V)(H:Hp)(Q:VK)(E9:XK):Prop
 | mk (b:Addr) (os:List Str) (rs:List Rm) (F:xu) (k:Nat) (_:vs=[.ref b,.int (k:Nat)]) (_:zW C H b os rs F) (_:k<rs.length) (_:∀(l:Addr) (qs:List Cb) (H':Hp),Same H H'->H l=none->H' l=some (.lst (qs.map cbV))->Qt os.length 0 (tB rs k) qs->Q (.ref l) H'):PJ C vs H Q E9
theorem zh2 {E:List Cb}{q:Cb}:inV (cbV q) (E.map cbV)=E.contains q:=by
 have e:E.map cbV=(E.map cbS).map V.str:=by rw[zr4];rfl
 rw[e,zfK,zr8,List.contains_iff_mem,List.contains_iff_mem,List.mem_map]
 exact⟨fun⟨r,h,e⟩=>by rw[<-Jd e];exact h,fun h=>⟨q,h,rfl⟩⟩
theorem zfR (E:List Cb):(E.map cbV).all wD=true:=by
 rw[List.all_map,zrW]
 exact fun _ _=>rfl
theorem Qt.few {n p:Nat}{f:Nat->Bool}{qs:List Cb}(h:Qt n p f qs)(n8:n<=8):qs.length<=2187:=by
 have a:=h.len
 have p3:3^(n-p-1)<=3^7:=zrY (by decide) (by omega)
 have e:3^7=2187:=rfl
 omega
theorem Zt {n:Nat}(h:n<=10000):n<=sizeLine:=zrO h (by decide)
theorem zh3 {n i:Nat}{f g:Nat->Bool}(h:Free n f i)(k:Free n g i):Free n (fun b=>f b&&g b) i:=fun b hb v=>by
 show(f (zE b i v)&&g (zE b i v))=(f b&&g b)
 rw[h b hb v,k b hb v]
theorem zcp (s:Option Bool)(q:Cb){y:Str}(e:y=cbS [s]):V.str (y++cbS q)=cbV (s::q):=by rw[e,zch];rfl
theorem nought:Str.ofString "0"=cbS [some false]:=by decide +kernel
theorem zol:Str.ofString "1"=cbS [some true]:=by decide +kernel
end uU
namespace L2
open PySem PySem.Spec PyProof.Rows
section
variable {X:Cx}
def zmI:V->List V->Hp->VK->Prop:=fun x vs H Q=>∃d kvs k v,x=.ref d/\vs=[kV k]/\H d=some (.dK kvs)/\tL kvs k=some v/\Q v (upd H d (.dK (LC kvs k)))
theorem zjB:MtM X "dict.pop" zmI:=by
 intro pins s σ H x vs v us Q I rx rv h
 obtain⟨d,kvs,k,y,rfl,rfl,hH,hv,q⟩:=h
 cases rx
 obtain⟨u,rfl,ru⟩:=rv.one
 exact zmi I hH ru hv (.inl rfl) fun w' s' I' r'=>⟨y,_,I',r',q⟩
end
def Itw (d:Addr)(o:Obj)(kvs:List (Key×V)):It :=
 ⟨fun i H=>H d=some (.Ji o (.dK kvs))/\i<kvs.length,fun i H x H'=>H'=H/\∃p,kvs[i]?=some p/\x=p.2,fun i H=>H d=some (.Ji o (.dK kvs))/\kvs.length<=i⟩
theorem zgu {P:Program}{w:World}{K:Frag}{tg:Expr}{h0:Heap}{d:Addr}{o:Obj}{vs0:List (Key×Value)}{kvs:List (Key×V)}{ep:Nat}(ho:h0.get? d=some o)(at0:h0.DictAt (yc P w) d vs0 ep)(it:Addr):Turn P w K tg (Itw d o kvs) [it] it (fun i h=>h.IsValIter it d i kvs.length ep) where
 mem:=by simp
 obj:=fun i h st b hb=>by
  have e:b=it:=by simpa using hb
  subst e
  obtain⟨o,e,c,d⟩:=st
  exact⟨o,e,fun v z=>by rw[d] at z;cases z⟩
 keep:=fun i h h' st k=>by
  obtain⟨o,e,c,d⟩:=st
  exact⟨o,k it (by simp) o e,c,d⟩
 item:=by
  intro X hP hw hK hc i pins s σ H E I hf st hg
  subst hP hw hK
  obtain⟨hd,hi⟩:=hg
  obtain⟨ho1,hz,lo,vs,rv,hD⟩:=(show s.heap.get? d=some o/\kvs.length<=sizeLine/\(d==sysModules)=false/\∃vs,KV kvs vs/\s.heap.DictOf (yc X.prog X.w) d vs from I.hok d _ hd)
  obtain⟨ep',hat⟩:=hD.dictAt
  obtain rfl:=zfN ho ho1 at0 hat
  have hl:kvs.length=vs.length:=Paired.length rv
  obtain⟨f0,f1,f2,f3,f4,f5⟩:=hf it (by simp)
  obtain⟨q,hq,rq⟩:=zfu rv (zrt hi)
  rw[hl] at st
  refine wpAny_pyNext_values_item st hat (k:=q.1) (v:=q.2) hq fun h' st' sb=>?_
  rw[<-hl] at st'
  have I1:Inv X pins σ H { s with heap:=h' }:=I.turned (t':=s.toks) (fun b o hb e=>(sb.2 b hb).trans e) f0 f1 f3 f4 f5
  obtain⟨o,e,c,d⟩:=id st'
  exact⟨q.2,rfl,zcZ (s:={ s with heap:=h' }) e c d (by decide) ⟨(kvs[i]).2,H,I1,rq.2,⟨rfl,kvs[i],zrt hi,rfl⟩,st',fun b hb=>(hf b hb).1⟩⟩
 done:=by
  intro X hP hw hK hc i pins s σ H E I hf st hg
  subst hP hw hK
  obtain⟨hd,hi⟩:=hg
  obtain⟨ho1,hz,lo,vs,rv,hD⟩:=(show s.heap.get? d=some o/\kvs.length<=sizeLine/\(d==sysModules)=false/\∃vs,KV kvs vs/\s.heap.DictOf (yc X.prog X.w) d vs from I.hok d _ hd)
  obtain⟨ep',hat⟩:=hD.dictAt
  obtain rfl:=zfN ho ho1 at0 hat
  have hl:kvs.length=vs.length:=Paired.length rv
  obtain⟨f0,f1,f2,f3,f4,f5⟩:=hf it (by simp)
  rw[hl] at st
  exact wpAny_pyNext_values_end (I.ok.hd hc) st hat (zr2 (by omega)) fun h' eb=>⟨rfl,I.turned (t':=s.toks) (fun b o hb e=>eb b o hb e) f0 f1 f3 f4 f5⟩
 self:=fun _ _ _ _ _ st h=>wpAny_pyIter_valiter st h
section
variable {X:Cx}{tg:Expr}
def zmK (tl:TE):TI:=fun σ H R=>tl σ H fun x H1=>∃d kvs,x=.ref d/\H1 d=some (.dK kvs)/\∀o,R (Itw d o kvs) (upd H1 d (.Ji o (.dK kvs)))
theorem zjC {o:Expr}{tl:TE}{apos cpos:Pos}(ho:PE X o tl)
  (hbase:attributeBase o "values" X.env (eval o X.env)=eval o X.env:=by rfl)(hline:(apos.endLine==cpos.line)=true:=by rfl):PI X tg (.Call (.Attribute o "values" apos) [] [] cpos) (zmK tl):=by
 intro pins s σ H R I h
 refine wpAny_Call_method0_late hbase hline (wQ (ho pins s σ H _ I h) fun v s1 ⟨x,H1,I1,r1,q1⟩=>?_)
 obtain⟨d,kvs,rfl,hd,q⟩:=q1
 obtain⟨h1,h2⟩:=zbT (T := "dict") I1 r1 (.inr (.inr (.inl ⟨rfl,.inl ⟨kvs,hd⟩⟩)))
 cases r1
 obtain⟨hz,lo,vs,rv,hD⟩:=(show kvs.length<=sizeLine/\(d==sysModules)=false/\∃vs,KV kvs vs/\s1.heap.DictOf (yc X.prog X.w) d vs from I1.hok d _ hd)
 obtain⟨ep,hat⟩:=hD.dictAt
 obtain⟨o,es,ho,rest⟩:=id hat
 have hl:kvs.length=vs.length:=Paired.length rv
 refine⟨"dict", "dict.values", PySem.F.plainAttrs_dict,PySem.F.slot_dict_values,PySem.F.type_dict_values,h1,h2,Calls.callWith_builtin rfl (PySem.evalArgs_none ?_)⟩
 refine call_meetsIn PySem.F.slot_dict_values hD.typeIs PySem.F.entry_dict_values (PySem.F.args_dict_values_1 _) (meets_dict_values (yc X.prog X.w) d lo) ⟨⟨vs,hD⟩,?_⟩
 have I2:=(I1.held hd ho).kept (t':=s1.toks) (h':=s1.heap.push { cls:=.type "dict_values", data:=.fields #[.ref d] }) fun b o e=>zry _ e
 have ho2:(s1.heap.push { cls:=.type "dict_values", data:=.fields #[.ref d] }).get? d=some o:=zry _ ho
 have zhC:(s1.heap.push { cls:=.type "dict_values", data:=.fields #[.ref d] }).DictAt (yc X.prog X.w) d vs ep:=⟨o,es,ho2,rest⟩
 refine wpAny_pyIter_values (s:={ s1 with heap:=s1.heap.push { cls:=.type "dict_values", data:=.fields #[.ref d] } }) ⟨_,zrN _ rfl,rfl,rfl⟩ zhC ?_
 rw[<-hl]
 generalize s1.heap.push { cls:=.type "dict_values", data:=.fields #[.ref d] }=h2' at I2 ho2 zhC ⊢
 refine⟨h2'.objs.size,[h2'.objs.size],_,_,_,rfl,I2.kept (t':=s1.toks) fun b o e=>zry _ e,zgu ho2 zhC _,⟨_,zrN _ rfl,rfl,rfl⟩,fun b hb=>?_,q o⟩
 have e:b=h2'.objs.size:=by simpa using hb
 subst e
 exact I2.zeh (zrI _) (I2.hok.fresh (zrI _))
end
theorem zjD {d:Addr}{o:Obj}{kvs:List (Key×V)}{σ:St}{js:List Nat}{te:TE}{H:Hp}{Qf:Addr->Hp->List V->Prop}(Pv:Nat->List V->Hp->Prop)(h0:Pv 0 [] H)(hz:kvs.length<=sizeLine)
  (hl:∀i ys H,i<=kvs.length->Pv i ys H->H d=some (.Ji o (.dK kvs))/\ys.length<=i)
  (hs:∀i p ys H (Q:V->Hp->Prop),kvs[i]?=some p->Pv i ys H->(∀v H3,Pv (i+1) (ys++[v]) H3->Q v H3)->te (Yg σ js (some p.2)) H Q)
  (hd:∀ys H p,Pv kvs.length ys H->H p=none->Qf p H ys) :
  ∃W:Nat->Nat->List V->Hp->Prop,(∃m,W 0 m [] H)/\∀i m ys H,W i m ys H ->
   ((Itw d o kvs).stop i H/\∀p,H p=none->Qf p H ys) \/
   ((Itw d o kvs).go i H/\ys.length<sizeLine/\∀x H',(Itw d o kvs).Qs i H x H'->Vx (Yg σ js (some x)) H' fun b H2 =>
    if b=true then te (Yg σ js (some x)) H2 fun v H3=>∃m',m'<m/\W (i+1) m' (ys++[v]) H3 else ∃m',m'<m/\W (i+1) m' ys H2):=by
 refine⟨fun i m ys H=>m=kvs.length-i/\i<=kvs.length/\Pv i ys H,⟨kvs.length,by simp,zrP _,h0⟩,?_⟩
 rintro i m ys H ⟨rfl,hi,p⟩
 obtain⟨q,hy⟩:=hl i ys H hi p
 by_cases hlt:i<kvs.length
 ·refine .inr ⟨⟨q,hlt⟩,by omega,fun x H' y=>?_⟩
  obtain⟨e,pp,e2,rfl⟩:=y
  subst e
  dsimp only[Vx]
  rw[if_pos rfl]
  exact hs i pp ys _ _ e2 p fun v H3 h3=>⟨_,by omega,rfl,hlt,h3⟩
 ·have e:i=kvs.length:=by omega
  subst e
  exact .inl ⟨⟨q,zrI _⟩,fun pp hp=>hd ys H pp p hp⟩
end L2
namespace uU
open PySem L2 yF
def zaI (fs:List (Nat->Bool))(b:Nat):Nat:=(fs.filter fun f=>f b).length
theorem zby (fs:List (Nat->Bool))(f:Nat->Bool)(b:Nat):zaI (fs++[f]) b=zaI fs b+(f b).toNat:=by
 unfold zaI
 rw[zr6,zrA]
 cases h:f b<;>simp[h]
inductive zcq (K:Frag)(vs:List V)(H:Hp)(Q:VK)(E9:XK):Prop
 | mk (l:Addr) (n:Nat) (Ns:List Nat) (fs:List (Nat->Bool)) (_:vs=[.ref l]) (_:zX K H l (Ns.map fun N=>V.int (N:Nat))) (_:Paired (zN n) Ns fs) (_:∀(R:Nat),zN n R (fun b=>decide (zaI fs b=1))->Q (.int (R:Nat)) H):zcq K vs H Q E9
def sgn (q:Cb):Nat:=(q.filter Option.isSome).length
theorem zcr:∀{q:Cb} {i:Nat} {v:Bool},q[i]?=some (some v)->sgn (q.set i none)+1=sgn q
 | [],i,v,h=>by cases h
 | s::q,0,v,h=>by
  cases h
  rfl
 | s::q,i+1,v,h=>by
  have ih:=zcr (q:=q) (i:=i) (v:=v) h
  show sgn (s::q.set i none)+1=sgn (s::q)
  unfold sgn at ih ⊢
  rw[List.filter_cons,List.filter_cons]
  cases s with
  | none=>exact ih
  | some u=>show _+1+1=_+1;rw[ih]
theorem zh4 {q:Cb}{i b:Nat}(h:YG q b=true):YG (q.set i none) b=true:=by
 rw[X5] at h ⊢
 intro j v e
 rw[List.getElem?_set] at e
 split at e
 ·split at e<;>cases e
 ·exact h j v e
theorem zh5 {n:Nat}{f:Nat->Bool}{b:Nat}:∀(m:Nat) (q:Cb),sgn q<=m->q.length=n->inB n f q=true->YG q b=true->∃r,r.length=n/\vQ n f r=true/\YG r b=true:=by
 intro m
 induction m with
 | zero =>
  intro q hs hl hi hb
  refine⟨q,hl,(xZ (p:=0)).mpr ⟨hi,fun i v e=>?_⟩,hb⟩
  have:=zcr e
  omega
 | succ m ih =>
  intro q hs hl hi hb
  by_cases h:∀i v,q[i]?=some (some v)->inB n f (q.set i none)=false
  ·exact⟨q,hl,(xZ (p:=0)).mpr ⟨hi,h⟩,hb⟩
  ·obtain⟨i,h⟩:=Classical.not_forall.mp h
   obtain⟨v,h⟩:=Classical.not_forall.mp h
   obtain⟨e,h⟩:=Classical.not_imp.mp h
   have:=zcr e
   exact ih (q.set i none) (by omega) (by rw[List.length_set];exact hl) (by simpa using h) (zh4 hb)
def zgv (n b:Nat):Cb:=(List.range n).map fun i=>some (b.testBit i)
theorem zjE {n b i:Nat}{v:Bool}(h:(zgv n b)[i]?=some (some v)):i<n/\v=b.testBit i:=by
 unfold zgv at h
 rw[zru] at h
 rcases Nat.lt_or_ge i n with z | z
 ·rw[List.getElem?_range z] at h
  cases h
  exact⟨z,rfl⟩
 ·rw[zr2 (by rw[zrK];exact z)] at h
  cases h
theorem zgw {n:Nat}{f:Nat->Bool}{b:Nat}(hb:b<2^n)(h:f b=true):∃r,r.length=n/\vQ n f r=true/\YG r b=true:=by
 refine zh5 (sgn (zgv n b)) (zgv n b) (zrI _) (by unfold zgv;rw[zrs,zrK]) ?_ ?_
 ·rw[YS]
  intro c hc e
  rw[X5] at e
  have:c=b:=Zm hc hb fun i hi=>e i (b.testBit i) (by unfold zgv;rw[zru,List.getElem?_range hi];rfl)
  rw[this];exact h
 ·rw[X5]
  intro i v e
  exact(zjE e).2.symm
theorem Qt.cov {n:Nat}{f:Nat->Bool}{qs:List Cb}(h:Qt n 0 f qs){b:Nat}(hb:b<2^n):(∃c∈qs,YG c b=true)↔f b=true:=by
 constructor
 ·rintro⟨c,hc,e⟩
  obtain⟨_,p⟩:=(h.mem c).mp hc
  exact YS.mp (xZ.mp p).1 b hb e
 ·intro e
  obtain⟨r,l,p,c⟩:=zgw hb e
  exact⟨r,(h.mem r).mpr ⟨l,p⟩,c⟩
def Own (ks:List Cb)(c:Cb)(b:Nat):Prop:=YG c b=true/\∀d∈ks,d≠c->YG d b=false
theorem own_one:∀{ks:List Cb} {c:Cb} {b:Nat},ks.Nodup->c∈ks->YG c b=true->(zaI (ks.map YG) b=1↔Own ks c b):=by
 intro ks c b nd hc hb
 have e:zaI (ks.map YG) b=(ks.filter fun d=>YG d b).length:=by
  unfold zaI
  rw[List.filter_map,zrs]
  rfl
 rw[e]
 have mc:c∈ks.filter fun d=>YG d b:=List.mem_filter.mpr ⟨hc,hb⟩
 constructor
 ·intro h
  obtain⟨x,hx⟩:=List.length_eq_one_iff.mp h
  refine⟨hb,fun d hd ne=>?_⟩
  cases e2:YG d b with
  | false=>rfl
  | true =>
   exfalso
   have md:d∈ks.filter fun d=>YG d b:=List.mem_filter.mpr ⟨hd,e2⟩
   rw[hx,List.mem_singleton] at md mc
   exact ne (md.trans mc.symm)
 ·rintro⟨_,h⟩
  have nl:(ks.filter fun d=>YG d b).Nodup:=nd.filter _
  have al:∀d∈ks.filter (fun d=>YG d b),d=c:=fun d hd=>by
   obtain⟨h1,h2⟩:=List.mem_filter.mp hd
   by_cases z:d=c
   ·exact z
   ·rw[h d h1 z] at h2;cases h2
  generalize ks.filter (fun d=>YG d b)=L at mc nl al
  match L,mc,nl,al with
  | [x],_,_,_=>rfl
  | x::y::L,_,nl,al =>
   exfalso
   have e1:=al x zrM
   have e2:=al y (zrD _ zrM)
   exact(List.nodup_cons.mp nl).1 (by rw[e1,<-e2];exact zrM)
theorem zh6 (n:Nat)(f:Nat->Bool):∃N,zN n N f:=by
 have:∀m,∃N:Nat,∀b,N.testBit b=(decide (b<m)&&f b):=by
  intro m
  induction m with
  | zero=>exact⟨0,fun b=>by simp⟩
  | succ m ih =>
   obtain⟨N,h⟩:=ih
   refine⟨N|||(if f m then 2^m else 0),fun b=>?_⟩
   rw[Nat.testBit_or,h b]
   by_cases e:b=m
   ·subst e
    cases hf:f b with
    | false=>simp
    | true=>simp[Nat.testBit_two_pow_self]
   ·have e1:decide (b<m+1)=decide (b<m):=decide_eq_decide.mpr (by omega)
    rw[e1]
    have e2:(if f m=true then 2^m else 0).testBit b=false:=by
     split
     ·rw[Nat.testBit_two_pow];exact decide_eq_false (Ne.symm e)
     ·exact Nat.zero_testBit _
    rw[e2,Bool.or_false]
 exact this (2^n)
structure Cov (n:Nat)(f:Nat->Bool)(ks:List Cb)(rows:List (List Bool)):Prop where
 mem:∀c∈ks,c.length=n/\vQ n f c=true
 up:ks.Pairwise ltC
 cov:∀b,b<2^n->((∃c∈ks,YG c b=true)↔f b=true)
 len:rows.length=ks.length
 own:∀(i:Nat) c r,ks[i]?=some c->rows[i]?=some r->r.length=n/\Own ks c (vU r)
structure Whi (n:Nat)(f:Nat->Bool)(qs:List Cb)(i:Nat)(ks:List Cb):Prop where
 dn:∃dn,ks=dn++qs.drop i/\dn.Sublist (qs.take i)/\∀c∈dn,∃b,b<2^n/\Own ks c b
 cov:∀b,b<2^n->((∃c∈ks,YG c b=true)↔f b=true)
theorem Whi.start {n:Nat}{f:Nat->Bool}{qs:List Cb}(P:Qt n 0 f qs):Whi n f qs 0 qs :=
 ⟨⟨[],rfl,List.Sublist.refl _,fun c h=>by cases h⟩,fun b hb=>P.cov hb⟩
theorem Own.less {ks ls:List Cb}{c:Cb}{b:Nat}(h:Own ks c b)(s:∀d∈ls,d∈ks):Own ls c b:=⟨h.1,fun d hd=>h.2 d (s d hd)⟩
theorem Whi.sub {n:Nat}{f:Nat->Bool}{qs ks:List Cb}{i:Nat}(h:Whi n f qs i ks):ks.Sublist qs:=by
 obtain⟨dn,e,s,_⟩:=h.dn
 rw[e]
 have:=s.append (List.Sublist.refl (qs.drop i))
 rwa [List.take_append_drop] at this
theorem Whi.nd {n:Nat}{f:Nat->Bool}{qs ks:List Cb}{i:Nat}(h:Whi n f qs i ks)(P:Qt n 0 f qs):ks.Nodup:=h.sub.nodup P.nd
theorem Whi.has {n:Nat}{f:Nat->Bool}{qs ks:List Cb}{i:Nat}{c:Cb}(h:Whi n f qs i ks)(e:qs[i]?=some c):c∈ks:=by
 obtain⟨dn,rfl,_⟩:=h.dn
 obtain⟨hi,rfl⟩:=zrv.mp e
 rw[List.drop_eq_getElem_cons hi]
 exact zrJ _ zrM
theorem Whi.stay {n:Nat}{f:Nat->Bool}{qs ks:List Cb}{i:Nat}{c:Cb}(h:Whi n f qs i ks)(e:qs[i]?=some c)(o:∃b,b<2^n/\Own ks c b):Whi n f qs (i+1) ks:=by
 obtain⟨dn,e1,s,hd⟩:=h.dn
 obtain⟨hi,rfl⟩:=zrv.mp e
 refine⟨⟨dn++[qs[i]],?_,?_,fun d hd'=>?_⟩,h.cov⟩
 ·rw[e1,List.drop_eq_getElem_cons hi,List.append_assoc]
  rfl
 ·rw[zZ e]
  exact s.append (List.Sublist.refl _)
 ·rcases List.mem_append.mp hd' with z | z
  ·exact hd d z
  ·rw[List.mem_singleton.mp z];exact o
theorem Whi.gone {n:Nat}{f:Nat->Bool}{qs ks:List Cb}{i:Nat}{c:Cb}(P:Qt n 0 f qs)(h:Whi n f qs i ks)(e:qs[i]?=some c)(o:∀b,b<2^n->¬Own ks c b):Whi n f qs (i+1) (ks.filter fun d=>decide (d≠c)):=by
 have nd:=h.nd P
 have hc:=h.has e
 obtain⟨dn,e1,s,hd⟩:=h.dn
 obtain⟨hi,rfl⟩:=zrv.mp e
 have e2:ks=dn++qs[i]::qs.drop (i+1):=by rw[e1,List.drop_eq_getElem_cons hi]
 have n1:∀d∈dn,d≠qs[i]:=fun d hd' z=>by
  rw[e2] at nd
  exact(List.nodup_append.mp nd).2.2 d hd' _ zrM z
 have n2:∀d∈qs.drop (i+1),d≠qs[i]:=fun d hd' z=>by
  rw[e2] at nd
  have:=(List.nodup_cons.mp (List.nodup_append.mp nd).2.1).1
  rw[z] at hd'
  exact this hd'
 have ef:ks.filter (fun d=>decide (d≠qs[i]))=dn++qs.drop (i+1):=by
  rw[e2,zr6,List.filter_cons_of_neg (by simp),List.filter_eq_self.mpr fun d hd'=>decide_eq_true (n1 d hd'),List.filter_eq_self.mpr fun d hd'=>decide_eq_true (n2 d hd')]
 have sub:∀d∈ks.filter (fun d=>decide (d≠qs[i])),d∈ks:=fun d hd'=>(List.mem_filter.mp hd').1
 refine⟨⟨dn,ef,?_,fun d hd'=>?_⟩,fun b hb=>?_⟩
 ·rw[zZ e]
  exact List.Sublist.trans s (List.sublist_append_left _ _)
 ·obtain⟨b,h1,h2⟩:=hd d hd'
  exact⟨b,h1,h2.less sub⟩
 ·rw[<-h.cov b hb]
  constructor
  ·rintro⟨d,h1,h2⟩
   exact⟨d,sub d h1,h2⟩
  ·rintro⟨d,h1,h2⟩
   by_cases z:d=qs[i]
   ·subst z
    have y:=o b hb
    have:∃d,¬(d∈ks->d≠qs[i]->YG d b=false):=Classical.not_forall.mp fun w=>y ⟨h2,w⟩
    obtain⟨d,hd'⟩:=this
    obtain⟨m1,hd'⟩:=Classical.not_imp.mp hd'
    obtain⟨m2,hd'⟩:=Classical.not_imp.mp hd'
    exact⟨d,List.mem_filter.mpr ⟨m1,decide_eq_true m2⟩,by simpa using hd'⟩
   ·exact⟨d,List.mem_filter.mpr ⟨h1,decide_eq_true z⟩,h2⟩
theorem Whi.done {n:Nat}{f:Nat->Bool}{qs ks:List Cb}(h:Whi n f qs qs.length ks):∀c∈ks,∃b,b<2^n/\Own ks c b:=by
 obtain⟨dn,e,_,hd⟩:=h.dn
 rw[List.drop_length,List.append_nil] at e
 subst e
 exact hd
def kvT (T:Cb->Nat)(c:Cb):Key×V:=(.inr (cbS c),.int (T c:Nat))
theorem zcs {T:Cb->Nat}:∀{ks:List Cb} {c:Cb},c∈ks->tL (ks.map (kvT T)) (.inr (cbS c))=some (.int (T c:Nat))
 | d::ks,c,h=>by
  rw[zrR]
  by_cases z:d=c
  ·subst z
   exact wU rfl
  ·rw[wF (fun e=>z (Jd (Sum.inr.inj e)))]
   exact zcs ((List.mem_cons.mp h).resolve_left (Ne.symm z))
theorem zdG {T:Cb->Nat}:∀{ks:List Cb} {c:Cb},c∉ks->tL (ks.map (kvT T)) (.inr (cbS c))=none
 | [],c,_=>rfl
 | d::ks,c,h=>by
  rw[zrR,wF (fun e=>h (by rw[Jd (Sum.inr.inj e)];exact zrM))]
  exact zdG fun z=>h (zrD _ z)
theorem zh7 {T:Cb->Nat}{ks:List Cb}{c:Cb}:LC (ks.map (kvT T)) (.inr (cbS c))=(ks.filter fun d=>decide (d≠c)).map (kvT T):=by
 unfold LC
 rw[List.filter_map]
 congr 1
 refine List.filter_congr fun d _=>?_
 show decide ((kvT T d).1≠Sum.inr (cbS c))=_
 refine decide_eq_decide.mpr ⟨fun h e=>h (by rw[e];rfl),fun h e=>h (Jd (Sum.inr.inj e))⟩
inductive zct (C:Addr)(vs:List V)(H:Hp)(Q:VK)(E9:XK):Prop
 | mk (b:Addr) (os:List Str) (rs:List Rm) (F:xu) (k:Nat) (_:vs=[.ref b,.int (k:Nat)]) (_:zW C H b os rs F) (_:k<rs.length) (_:∀(t cl rl:Addr) (ks:List Cb) (ps:List Addr) (rows:List (List Bool)) (H':Hp),Same H H'->H t=none->H cl=none->H rl=none->cl≠rl->H' t=some (.tup [.ref cl,.ref rl])->H' cl=some (.lst (ks.map cbV))->H' rl=some (.lst (ps.map V.ref))->Paired (fun p r=>H p=none/\p≠cl/\p≠rl/\H' p=some (.lst (Uo r))) ps rows->ps.Nodup->Cov os.length (tB rs k) ks rows->ks.length<=2187->Q (.ref t) H'):zct C vs H Q E9
def zjF (n:Nat)(f:Nat->Bool)(qs:List Cb):Bool:=(List.range (2^n)).all fun b=>(qs.any fun c=>YG c b)==f b
theorem zh8 {n:Nat}{f:Nat->Bool}{qs:List Cb}:zjF n f qs=true↔∀b,b<2^n->(qs.any fun c=>YG c b)=f b:=by
 unfold zjF
 rw[zrW]
 exact⟨fun h b hb=>by simpa using h b (List.mem_range.mpr hb),fun h b hb=>by rw[h b (List.mem_range.mp hb)];simp⟩
inductive MK (C:Addr)(K:Frag)(vs:List V)(H:Hp)(Q:VK)(E9:XK):Prop
 | mk (b l:Addr) (os:List Str) (rs:List Rm) (F:xu) (k:Nat) (qs:List Cb) (_:vs=[.ref b,.int (k:Nat),.ref l]) (_:zW C H b os rs F) (_:k<rs.length) (_:zX K H l (qs.map cbV)) (_:∀q∈qs,q.length=os.length) (_:∀H',Same H H'->Q (.bl (zjF os.length (tB rs k) qs)) H'):MK C K vs H Q E9
end uU
namespace L2
open PySem PySem.Spec PyProof.Rows
theorem zeT {K:Frag}{σ:St}{js:List Nat}{te:TE}{H:Hp}{Qf:Addr->Hp->List V->Prop}{a:Addr}(T:Bool->Nat->Prop)(hq:vp K H a [.int 0,.int 1])
  (hs:∀(v:Bool) H' (Q:V->Hp->Prop),Same H H'->(∀N:Nat,T v N->∀H3,Same H' H3->Q (.int (N:Nat)) H3)->te (Yg σ js (some (.int ((v.toNat:Nat):Int)))) H' Q)
  (hd:∀H' l (N0 N1:Nat),Same H H'->T false N0->T true N1->H' l=none->Qf l H' [.int (N0:Nat),.int (N1:Nat)]) :
  ∃W:Nat->Nat->List V->Hp->Prop,(∃m,W 0 m [] H)/\∀i m ys H,W i m ys H ->
   ((Itt K a).stop i H/\∀p,H p=none->Qf p H ys) \/
   ((Itt K a).go i H/\ys.length<sizeLine/\∀x H',(Itt K a).Qs i H x H'->Vx (Yg σ js (some x)) H' fun b H2 =>
    if b=true then te (Yg σ js (some x)) H2 fun v H3=>∃m',m'<m/\W (i+1) m' (ys++[v]) H3 else ∃m',m'<m/\W (i+1) m' ys H2):=by
 refine⟨fun i m ys H'=>m=2-i/\Same H H'/\(i=0/\ys=[]\/(i=1/\∃N0:Nat,T false N0/\ys=[.int (N0:Nat)])\/(i=2/\∃N0 N1:Nat,T false N0/\T true N1/\ys=[.int (N0:Nat),.int (N1:Nat)])),⟨2,rfl,Same.refl _,.inl ⟨rfl,rfl⟩⟩,?_⟩
 rintro i m ys H1 ⟨rfl,g,h⟩
 have hq1:=g.zkT hq
 rcases h with ⟨rfl,rfl⟩ | ⟨rfl,N0,t0,rfl⟩ | ⟨rfl,N0,N1,t0,t1,rfl⟩
 ·refine .inr ⟨⟨_,_,hq1,rfl⟩,by decide,fun x H' y=>?_⟩
  obtain⟨e,y⟩:=y
  subst e
  have ex:=y _ hq1
  cases ex
  dsimp only[Vx]
  rw[if_pos rfl]
  exact hs false _ _ g fun N tN H3 g3=>⟨1,by decide,rfl,g.trans g3,.inr (.inl ⟨rfl,N,tN,rfl⟩)⟩
 ·refine .inr ⟨⟨_,_,hq1,rfl⟩,by show 1<sizeLine;decide,fun x H' y=>?_⟩
  obtain⟨e,y⟩:=y
  subst e
  have ex:=y _ hq1
  cases ex
  dsimp only[Vx]
  rw[if_pos rfl]
  exact hs true _ _ g fun N tN H3 g3=>⟨0,by decide,rfl,g.trans g3,.inr (.inr ⟨rfl,N0,N,t0,tN,rfl⟩)⟩
 ·exact .inl ⟨⟨_,hq1,zrI _⟩,fun l hl=>hd _ l N0 N1 g t0 t1 hl⟩
end L2
namespace uU
open PySem L2 yF
inductive PK (d:Nat)(vs:List V)(H:Hp)(Q:VK)(E9:XK):Prop
 | mk (N M p n:Nat) (f c:Nat->Bool) (_:vs=[.int (N:Nat),.int (M:Nat),.int (p:Nat),.int (n:Nat)]) (_:n<=8) (_:p<=n) (_:n+1<=p+d) (_:zN n N f) (_:zN n M c) (_:(∀i,i<p->Free n f i)) (_:(∀i,i<p->Free n c i)) (_:∀(R:Nat) (g:Nat->Bool) (H':Hp),Same H H'->zN n R g->Q (.int (R:Nat)) H'):PK d vs H Q E9
inductive J9 (C:Addr)(vs:List V)(H:Hp)(Q:VK)(E9:XK):Prop
 | mk (b:Addr) (os:List Str) (rs:List Rm) (F:xu) (i j:Nat) (_:vs=[.ref b,.int (i:Nat),.int (j:Nat)]) (_:zW C H b os rs F) (_:rs.length<=8000000) (_:i<rs.length) (_:j<rs.length) (_:∀(k:Nat) (rs':List Rm) (H':Hp),zhu F H H'->yH H H'->zW C H' b os rs' F->wN rs rs'->hiN os.length rs'<=hiN os.length rs+63->Q (.int (k:Nat)) H'):J9 C vs H Q E9
end uU
namespace K67
open PySem L2
def top (i:Nat):Stmt:=PySem.Challenge.pw_decidebook_k67_rooms_stay_what_they_are.main.body.getD i (.Pass ⟨0,0,0,0⟩)
abbrev zaa:Stmt:=top 9
abbrev xJ:List Str:=["marks"]
theorem zdH:zG ["marks"] xJ (zx zaa):=fsc (by decide +kernel)
abbrev Ke:Stmt:=top 10
abbrev xG:List Str:=["place", "marks"]
theorem Zu:zG ["place", "marks", "half", "table", "further"] xG (zx Ke):=fsc (by decide +kernel)
abbrev zbz:Stmt:=top 11
abbrev Z0:List Str:=["table", "place", "marks"]
theorem R8:zG ["table", "place", "marks", "ones", "noughts"] Z0 (zx zbz):=fsc (by decide +kernel)
abbrev zbA:Stmt:=top 12
abbrev vL:List Str:=["table", "place", "value", "marks"]
theorem R9:zG ["table", "place", "value", "marks", "ones", "kept"] vL (zx zbA):=fsc (by decide +kernel)
abbrev zab:Stmt:=top 13
abbrev Z1:List Str:=["table", "place", "marks"]
theorem zdI:zG ["table", "place", "marks"] Z1 (zx zab):=fsc (by decide +kernel)
abbrev Rq:Stmt:=top 14
abbrev uV:List Str:=["table", "marks"]
theorem Xm:zG ["table", "marks", "place"] uV (zx Rq):=fsc (by decide +kernel)
abbrev zbB:Stmt:=top 15
abbrev Za:List Str:=["table", "other"]
theorem zeU:zG ["table", "other"] Za (zx zbB):=fsc (by decide +kernel)
abbrev Rr:Stmt:=top 16
abbrev Yk:List Str:=["places", "values", "marks"]
theorem wV:zG ["places", "values", "marks", "table", "place", "value", "ones"] Yk (zx Rr):=fsc (by decide +kernel)
abbrev Te:Stmt:=top 17
abbrev Zv:List Str:=["table", "places", "marks"]
theorem wB:zG ["table", "places", "marks", "values", "place", "low", "value"] Zv (zx Te):=fsc (by decide +kernel)
abbrev Kf:Stmt:=top 18
abbrev X6:List Str:=["table", "marks"]
theorem zcu:zG ["table", "marks"] X6 (zx Kf):=fsc (by decide +kernel)
abbrev zdJ:Stmt:=top 19
abbrev Tg:List Str:=["where", "low", "high"]
theorem zgx:zG ["where", "low", "high"] Tg (zx zdJ):=fsc (by decide +kernel)
abbrev zbC:Stmt:=top 25
abbrev Xa:List Str:=["letter"]
theorem zeV:zG ["letter"] Xa (zx zbC):=fsc (by decide +kernel)
abbrev Qa:Stmt:=top 26
abbrev VN:List Str:=["order"]
theorem zdK:zG ["order"] VN (zx Qa):=fsc (by decide +kernel)
abbrev PL:Stmt:=top 27
abbrev uD:List Str:=["sentence"]
theorem zaJ:zG ["sentence"] uD (zx PL):=fsc (by decide +kernel)
abbrev zac:Stmt:=top 28
abbrev v8:List Str:=["sentence"]
theorem zdL:zG ["sentence"] v8 (zx zac):=fsc (by decide +kernel)
abbrev Ti:Stmt:=top 29
abbrev v9:List Str:=["level"]
theorem Yy:zG ["level", "found", "sentence"] v9 (zx Ti):=fsc (by decide +kernel)
abbrev X7:Stmt:=top 30
abbrev X8:List Str:=["some"]
theorem PN:zG ["some", "shape"] X8 (zx X7):=fsc (by decide +kernel)
abbrev Wy:Stmt:=top 31
abbrev Yl:List Str:=["some"]
theorem wg:zG ["some", "level", "deep", "tuples"] Yl (zx Wy):=fsc (by decide +kernel)
abbrev Ud:Stmt:=top 32
abbrev u9:List Str:=["order"]
theorem MN:zG ["order"] u9 (zx Ud):=fsc (by decide +kernel)
abbrev Xn:Stmt:=top 33
abbrev vC:List Str:=["some"]
theorem Rg:zG ["some"] vC (zx Xn):=fsc (by decide +kernel)
abbrev Va:Stmt:=top 34
abbrev wW:List Str:=["order", "letter"]
theorem PX:zG ["order", "letter"] wW (zx Va):=fsc (by decide +kernel)
abbrev Wa:Stmt:=top 35
abbrev vW:List Str:=["order", "sentence"]
theorem Xo:zG ["order", "sentence", "letter"] vW (zx Wa):=fsc (by decide +kernel)
abbrev Kg:Stmt:=top 36
abbrev Wb:List Str:=["sentence"]
theorem YT:zG ["sentence", "found", "level"] Wb (zx Kg):=fsc (by decide +kernel)
abbrev P0:Stmt:=top 37
abbrev YW:List Str:=["sentence"]
theorem Wz:zG ["sentence", "found", "part"] YW (zx P0):=fsc (by decide +kernel)
abbrev Qc:Stmt:=top 38
abbrev Z2:List Str:=["sentence", "order"]
theorem Wc:zG ["sentence", "order", "word", "marks", "tables"] Z2 (zx Qc):=fsc (by decide +kernel)
abbrev Tj:Stmt:=top 39
abbrev wX:List Str:=["word", "one", "other", "every"]
theorem KQ:zG ["word", "one", "other", "every"] wX (zx Tj):=fsc (by decide +kernel)
abbrev Kh:Stmt:=inClass (top 41) 0
abbrev Wd:List Str:=["self", "order"]
theorem Nb:zG ["self", "order", "marks"] Wd (zx Kh):=fsc (by decide +kernel)
abbrev Nf:Stmt:=inClass (top 41) 1
abbrev xR:List Str:=["self"]
theorem zaK:zG ["self"] xR (zx Nf):=fsc (by decide +kernel)
abbrev Kl:Stmt:=inClass (top 41) 2
abbrev Yw:List Str:=["self"]
theorem zcv:zG ["self"] Yw (zx Kl):=fsc (by decide +kernel)
abbrev Ng:Stmt:=inClass (top 41) 3
abbrev YX:List Str:=["self", "sentence"]
theorem zaL:zG ["self", "sentence"] YX (zx Ng):=fsc (by decide +kernel)
abbrev Km:Stmt:=inClass (top 41) 4
abbrev Wf:List Str:=["self", "number"]
theorem zcw:zG ["self", "number"] Wf (zx Km):=fsc (by decide +kernel)
abbrev Nh:Stmt:=inClass (top 41) 6
abbrev YZ:List Str:=["self", "number"]
theorem Ym:zG ["self", "number", "found", "waiting", "here"] YZ (zx Nh):=fsc (by decide +kernel)
abbrev YH:Stmt:=inClass (top 41) 7
abbrev z6:List Str:=["self", "number"]
theorem Tn:zG ["self", "number"] z6 (zx YH):=fsc (by decide +kernel)
abbrev Ue:Stmt:=inClass (top 41) 8
abbrev vI:List Str:=["self", "number"]
theorem MP:zG ["self", "number"] vI (zx Ue):=fsc (by decide +kernel)
abbrev Ni:Stmt:=inClass (top 41) 9
abbrev uE:List Str:=["self", "number", "value"]
theorem zaM:zG ["self", "number", "value"] uE (zx Ni):=fsc (by decide +kernel)
abbrev Ug:Stmt:=inClass (top 41) 11
abbrev yP:List Str:=["self", "number"]
theorem M4:zG ["self", "number"] yP (zx Ug):=fsc (by decide +kernel)
abbrev Vb:Stmt:=inClass (top 41) 12
abbrev yI:List Str:=["self", "table"]
theorem wG:zG ["self", "table", "marks", "place", "low", "high"] yI (zx Vb):=fsc (by decide +kernel)
abbrev zbD:Stmt:=top 43
abbrev SX:List Str:=["book", "room"]
theorem zeW:zG ["book", "room"] SX (zx zbD):=fsc (by decide +kernel)
abbrev M5:Stmt:=top 46
abbrev S5:List Str:=["book", "cube"]
theorem zeX:zG ["book", "cube"] S5 (zx M5):=fsc (by decide +kernel)
abbrev Tp:Stmt:=top 47
abbrev wY:List Str:=["book", "cube"]
theorem KR:zG ["book", "cube"] wY (zx Tp):=fsc (by decide +kernel)
abbrev Uh:Stmt:=top 48
abbrev tD:List Str:=["book", "cubes"]
theorem Vc:zG ["book", "cubes", "cube"] tD (zx Uh):=fsc (by decide +kernel)
abbrev Vd:Stmt:=top 49
abbrev Z4:List Str:=["cube"]
theorem zad:zG ["cube", "places"] Z4 (zx Vd):=fsc (by decide +kernel)
abbrev Ko:Stmt:=top 50
abbrev Wg:List Str:=["book", "cube"]
theorem zcx:zG ["book", "cube"] Wg (zx Ko):=fsc (by decide +kernel)
abbrev Kp:Stmt:=top 51
abbrev Yx:List Str:=["book", "room", "cube"]
theorem zcy:zG ["book", "room", "cube"] Yx (zx Kp):=fsc (by decide +kernel)
abbrev Qd:Stmt:=top 52
abbrev VP:List Str:=["book", "room", "cube"]
theorem zdM:zG ["book", "room", "cube"] VP (zx Qd):=fsc (by decide +kernel)
abbrev S6:Stmt:=top 53
abbrev Ve:List Str:=["cube"]
theorem zeY:zG ["cube"] Ve (zx S6):=fsc (by decide +kernel)
abbrev zdN:Stmt:=top 54
abbrev Tq:List Str:=["book", "room"]
theorem zgy:zG ["book", "room"] Tq (zx zdN):=fsc (by decide +kernel)
abbrev wK:Stmt:=top 55
abbrev vM:List Str:=["table", "place", "marks"]
theorem wZ:zG ["table", "place", "marks", "low", "high", "either", "noughts", "ones"] vM (zx wK):=fsc (by decide +kernel)
abbrev zcz:Stmt:=top 56
abbrev Je:List Str:=["book", "room"]
theorem Tr:zG ["book", "room", "kept", "cube", "own"] Je (zx zcz):=fsc (by decide +kernel)
abbrev Rt:Stmt:=top 57
abbrev Yn:List Str:=["tables"]
theorem vd:zG ["tables", "seen", "again", "table"] Yn (zx Rt):=fsc (by decide +kernel)
abbrev zae:Stmt:=top 58
abbrev VR:List Str:=["book", "room", "cubes"]
theorem Wh:zG ["book", "room", "cubes", "covered", "cube"] VR (zx zae):=fsc (by decide +kernel)
abbrev zfS:Stmt:=top 59
abbrev Jf:List Str:=["book", "room", "care"]
theorem zdO:zG ["book", "room", "care", "made"] Jf (zx zfS):=fsc (by decide +kernel)
abbrev Vf:Stmt:=top 60
abbrev Xb:List Str:=["table", "care", "place", "marks"]
theorem Xp:zG ["table", "care", "place", "marks", "cares", "sides", "value", "made"] Xb (zx Vf):=fsc (by decide +kernel)
abbrev Ui:Stmt:=top 62
abbrev yQ:List Str:=["script", "k"]
theorem Vg:zG ["script", "k"] yQ (zx Ui):=fsc (by decide +kernel)
abbrev Nj:Stmt:=top 63
abbrev vD:List Str:=["cell", "k", "bound"]
theorem vN:zG ["cell", "k", "bound", "stir", "left", "j"] vD (zx Nj):=fsc (by decide +kernel)
abbrev Ru:Stmt:=top 64
abbrev Yo:List Str:=["cell", "limit"]
theorem Xq:zG ["cell", "limit", "found", "k"] Yo (zx Ru):=fsc (by decide +kernel)
abbrev vf:Stmt:=top 65
abbrev uF:List Str:=["script", "at", "many", "order"]
theorem yr:zG ["script", "at", "many", "order", "kinds", "made", "k", "cell", "kind", "one", "other", "letter"] uF (zx vf):=fsc (by decide +kernel)
abbrev V0:Stmt:=top 66
abbrev Y0:List Str:=["cell", "size"]
theorem zaN:zG ["cell", "size"] Y0 (zx V0):=fsc (by decide +kernel)
abbrev S_law:Stmt:=top 67
abbrev p_law:List Str:=["script"]
theorem sc_law:zG ["script", "order", "one", "book", "room", "care", "kept", "cube", "way"] p_law (zx S_law):=fsc (by decide +kernel)
def xH:List (Str×Int×Int):=[("yes", 0,0),("no", 0,0),("mark", 1,0),("not", 0,1),("and", 0,2),("or", 0,2),("either", 0,2),("if", 0,2),("some", 1,1),("each", 1,1)]
set_option genInjectivity false in
set_option genSizeOf false in
structure Ad where
 wj:Addr
 wk:FuncData
 xV:Addr
 xW:FuncData
 Xc:Addr
 Xd:FuncData
 uG:Addr
 uH:FuncData
 Xr:Addr
 Xu:FuncData
 Yp:Addr
 Yq:FuncData
 Z5:Addr
 Z6:FuncData
 WD:Addr
 WK:FuncData
 Xv:Addr
 Xw:FuncData
 Tt:Addr
 Tv:FuncData
 Nk:Addr
 Nm:FuncData
 Vh:Addr
 Vi:FuncData
 Qe:Addr
 Qg:FuncData
 Zw:Addr
 Zx:FuncData
 tO:Addr
 tQ:FuncData
 Zy:Addr
 Zz:FuncData
 Tw:Addr
 Tz:FuncData
 WL:Addr
 WM:FuncData
 Yz:Addr
 YB:FuncData
 tU:Addr
 tV:FuncData
 uI:Addr
 uJ:FuncData
 ZC:Addr
 ZD:FuncData
 TF:Addr
 TJ:FuncData
 V1:Addr
 V2:FuncData
 Xx:Addr
 Xy:FuncData
 uc:Addr
 ud:FuncData
 Wi:Addr
 TQ:FuncData
 wH:Addr
 wI:FuncData
 Wj:Addr
 Wk:FuncData
 V3:Addr
 V4:FuncData
 TV:Addr
 TX:FuncData
 V5:Addr
 V6:FuncData
 yg:Addr
 yh:FuncData
 tE:Addr
 tG:FuncData
 ZF:Addr
 ZG:FuncData
 xK:Addr
 xM:FuncData
 yX:Addr
 yZ:FuncData
 M6:Addr
 M7:FuncData
 M8:Addr
 M9:FuncData
 uf:Addr
 ug:FuncData
 YC:Addr
 YD:FuncData
 Xe:Addr
 Xf:FuncData
 TY:Addr
 T3:FuncData
 Wm:Addr
 Wn:FuncData
 Qh:Addr
 Qi:FuncData
 S7:Addr
 S8:FuncData
 Np:Addr
 Nq:FuncData
 uW:Addr
 uX:FuncData
 zcA:Addr
 zcB:FuncData
 WQ:Addr
 WR:FuncData
 Qj:Addr
 Qk:FuncData
 zcC:Addr
 zcD:FuncData
 Vj:Addr
 Vk:FuncData
 xO:Addr
 xP:FuncData
 uK:Addr
 uL:FuncData
 WT:Addr
 WW:FuncData
 Z7:Addr
 Z8:FuncData
 V7:Addr
 V8:FuncData
 a_law:Addr
 d_law:FuncData
 zu:Addr
 Jg:Addr
 zaO:Tok
 zdP:Tok
 Vl:Addr
 zgz:List (Str×Value)
 Jh:Addr
structure Txt (P:Program)(w:World)(K:Frag)(mg:Str->Option Value)(a:Ad):Prop where
 zlh:mg "Book"=some (.ref a.zu)
 vG:Df K mg "all_rows" zaa a.wj a.wk xJ
 Zb:Df K mg "rows_with" Ke a.xV a.xW xG
 Vm:Df K mg "flipped" zbz a.Xc a.Xd Z0
 uN:Df K mg "held_at" zbA a.uG a.uH vL
 Ql:Df K mg "hangs_on" zab a.Xr a.Xu Z1
 Rv:Df K mg "first_place" Rq a.Yp a.Yq uV
 Vn:Df K mg "without" zbB a.Z5 a.Z6 Za
 Rw:Df K mg "rows_having" Rr a.WD a.WK Yk
 T4:Df K mg "first_values" Te a.Xv a.Xw Zv
 Kq:Df K mg "first_row" Kf a.Tt a.Tv X6
 zdQ:Df K mg "chosen" zdJ a.Nk a.Nm Tg
 La:Df K mg "is_mark" zbC a.Vh a.Vi Xa
 zaf:Df K mg "is_order" Qa a.Qe a.Qg VN
 V9:Df K mg "letters_of" PL a.Zw a.Zx uD
 Ua:Df K mg "parts_of" zac a.tO a.tQ v8
 Xz:Df K mg "parts_of_all" Ti a.Zy a.Zz v9
 Kr:Df K mg "is_shaped" X7 a.Tw a.Tz X8
 Rx:Df K mg "is_sentence" Wy a.WL a.WM Yl
 Uj:Df K mg "must_be_order" Ud a.Yz a.YB u9
 XC:Df K mg "must_be_sentence" Xn a.tU a.tV vC
 Vo:Df K mg "must_have_mark" Va a.uI a.uJ wW
 Wo:Df K mg "must_have_marks" Wa a.ZC a.ZD vW
 Ks:Df K mg "tuples_in" Kg a.TF a.TJ Wb
 Nr:Df K mg "letters_in" P0 a.V1 a.V2 YW
 Qm:Df K mg "table_of" Qc a.Xx a.Xy Z2
 T5:Df K mg "table_of_two" Tj a.uc a.ud wX
 Lb:Df K mg "size_of" zbD a.M6 a.M7 SX
 zbE:Df K mg "is_cube" M5 a.M8 a.M9 S5
 ZJ:Df K mg "must_be_cube" Tp a.uf a.ug wY
 Uk:Df K mg "must_be_cubes" Uh a.YC a.YD tD
 Vp:Df K mg "rows_of" Vd a.Xe a.Xf Z4
 Ku:Df K mg "cube_room" Ko a.TY a.T3 Wg
 Wq:Df K mg "is_within" Kp a.Wm a.Wn Yx
 zag:Df K mg "is_prime" Qd a.Qh a.Qi VP
 zbF:Df K mg "widened" S6 a.S7 a.S8 Ve
 zah:Df K mg "primes" zdN a.Np a.Nq Tq
 uY:Df K mg "primes_from" wK a.uW a.uX vM
 zfT:Df K mg "cover" zcz a.zcA a.zcB Je
 WX:Df K mg "rows_of_one" Rt a.WQ a.WR Yn
 zai:Df K mg "is_cover" zae a.Qj a.Qk VR
 zfU:Df K mg "cared" zfS a.zcC a.zcD Jf
 Vq:Df K mg "trimmed" Vf a.Vj a.Vk Xb
 yG:Df K mg "_law_cell_at" Ui a.xO a.xP yQ
 xT:Df K mg "_law_draw" Nj a.uK a.uL vD
 Ry:Df K mg "_law_order" Ru a.WT a.WW Yo
 Z9:Df K mg "_law_sentence" vf a.Z7 a.Z8 uF
 Nt:Df K mg "_law_cube" V0 a.V7 a.V8 Y0
 f_law:Df K mg "law" S_law a.a_law a.d_law p_law
 Kv:Dm K a.zu "__init__" "Book.__init__" Kh a.Wi a.TQ Wd
 uO:Dm K a.zu "order" "Book.order" Nf a.wH a.wI xR
 Kw:Dm K a.zu "size" "Book.size" Kl a.Wj a.Wk Yw
 Y4:Dm K a.zu "enter" "Book.enter" Ng a.V3 a.V4 YX
 T6:Dm K a.zu "room" "Book.room" Km a.TV a.TX Wf
 Nu:Dm K a.zu "below" "Book.below" Nh a.V5 a.V6 YZ
 yp:Dm K a.zu "must_be_room" "Book.must_be_room" YH a.yg a.yh z6
 Ul:Dm K a.zu "place_of" "Book.place_of" Ue a.tE a.tG vI
 ZK:Dm K a.zu "going" "Book.going" Ni a.ZF a.ZG uE
 wC:Dm K a.zu "table_at" "Book.table_at" Ug a.xK a.xM yP
 xX:Dm K a.zu "room_with" "Book.room_with" Vb a.yX a.yZ yI
 zR:Cls K a.zu
 zjG:Mk K a.zu a.Wi
 vO:Xh K a.zu "marks"
 wL:Xh K a.zu "rooms"
 XD:Xh K a.zu "tables"
 vJ:Xh K a.zu "numbers"
 zjH:mg "MARKS"=some (.ref a.Jg)
 zjI:∀H,vp K H a.Jg ((["a", "b", "c", "d", "e", "f", "g", "h"]:List Str).map V.str)
 zaP:mg "MOST_TUPLES"=some (.int 200 a.zaO)
 zdR:mg "MOST_DEEP"=some (.int 24 a.zdP)
 Nv:mg "SHAPES"=some (.ref a.Vl)
 XF:Shp K P w a.Vl a.zgz xH
 zjJ:mg "SIGNS"=some (.ref a.Jh)
 zjK:∀H,vp K H a.Jh ((["-", "0", "1"]:List Str).map V.str)
 zdS:mg "all"=none
 zmL:mg "any"=none
 Ky:mg "enumerate"=none
 zkd:mg "int"=none
 Nx:mg "isinstance"=none
 wA:mg "len"=none
 T7:mg "list"=none
 Y5:mg "range"=none
 zmM:mg "set"=none
 zh9:mg "sorted"=none
 zmN:mg "str"=none
 zjL:mg "tuple"=none
 zmO:mg "zip"=none
theorem x_law {K:Frag}{mg:Str->Option Value}{f:Addr}{d:FuncData}(F:Df K mg "law" S_law f d p_law):∀(s:Shared) (u:Value),BindsTo s d ⟨[u],[]⟩ [("script", u)]:=by
 obtain⟨_,_,_,_,_,_,_,_,_,rfl,_,_⟩:=F.F.ex
 exact fun s u=>.of_eq rfl
theorem zmP {P:Program}{w:World}{K:Frag}{mg:Str->Option Value}{x0 x2 x4 x6 x8 x10 x12 x14 x16 x18 x20 x22 x24 x26 x28 x30 x32 x34 x36 x38 x40 x42 x44 x46 x48 x50 x52 x54 x56 x58 x60 x62 x64 x66 x68 x70 x72 x74 x76 x78 x80 x82 x84 x86 x88 x90 x92 x94 x96 x98 x100 x102 x104 x106 x108 x110 x112 x114 x116 x118 x119 x122 x124:Addr}{x1 x3 x5 x7 x9 x11 x13 x15 x17 x19 x21 x23 x25 x27 x29 x31 x33 x35 x37 x39 x41 x43 x45 x47 x49 x51 x53 x55 x57 x59 x61 x63 x65 x67 x69 x71 x73 x75 x77 x79 x81 x83 x85 x87 x89 x91 x93 x95 x97 x99 x101 x103 x105 x107 x109 x111 x113 x115 x117:FuncData}{x120 x121:Tok}{x123:List (Str×Value)}(t:Txt P w K mg ⟨x0,x1,x2,x3,x4,x5,x6,x7,x8,x9,x10,x11,x12,x13,x14,x15,x16,x17,x18,x19,x20,x21,x22,x23,x24,x25,x26,x27,x28,x29,x30,x31,x32,x33,x34,x35,x36,x37,x38,x39,x40,x41,x42,x43,x44,x45,x46,x47,x48,x49,x50,x51,x52,x53,x54,x55,x56,x57,x58,x59,x60,x61,x62,x63,x64,x65,x66,x67,x68,x69,x70,x71,x72,x73,x74,x75,x76,x77,x78,x79,x80,x81,x82,x83,x84,x85,x86,x87,x88,x89,x90,x91,x92,x93,x94,x95,x96,x97,x98,x99,x100,x101,x102,x103,x104,x105,x106,x107,x108,x109,x110,x111,x112,x113,x114,x115,x116,x117,x118,x119,x120,x121,x122,x123,x124⟩):∃a,Txt P w K mg a:=⟨_,t⟩
end K67
namespace K67
open PySem L2 uU
section
variable {P:Program}{w:World}{K:Frag}{mg:Str->Option Value}{base:Heap}{a:Ad}{k:Nat}
theorem zdT (T:Txt P w K mg a):zA P w K mg base zU (k+1) a.wj a.wk xJ wR:=by
 refine T.vG.F.ok zdH (fun vs H Q E h=>?_) (fun cdv A outer s H vs Q E hr h=>?_)
 ·obtain⟨n,rfl,_⟩:=h
  rfl
 obtain⟨n,rfl,hn,q⟩:=h
 refine⟨_,(zm (zF (zJ Jp (zJ Yi zq (zJ Yi zq (pv 0))) zq))),?_⟩
 have h1:=zgi hn
 have one:1<2^10000:=zc9 (k:=1) (by decide) (by decide)
 refine⟨_,rfl,1,n,rfl,rfl,one,by omega,1,1*2^n,rfl,rfl,one,by omega,_,1,rfl,rfl,?_⟩
 have e:(((1*2^(1*2^n):Nat):Int)-1)=((2^2^n-1:Nat):Int):=by
  rw[Nat.one_mul,Nat.one_mul]
  have:=Nat.two_pow_pos (2^n)
  omega
 show Q (.int (((1*2^(1*2^n):Nat):Int)-1)) H
 rw[e]
 exact q
theorem zcE (T:Txt P w K mg a):zA P w K mg base zU (k+1) a.xV a.xW xG wJ:=by
 refine T.Zb.F.ok Zu (fun vs H Q E h=>?_) (fun cdv A outer s H vs Q E hr h=>?_)
 ·obtain⟨p,n,rfl,_⟩:=h
  rfl
 obtain⟨p,n,rfl,hp,hn,q⟩:=h
 refine⟨_,(zf (zH 2 Zu.nd (zJ Yi zq (pv 0)))
   (zf (zH 3 Zu.nd (zJ Yi (zJ Jp (zJ Yi zq (pv 2)) zq) (pv 2)))
   (zf (uQ PassesOwn.never rfl (za3 rfl T.Y5 (za (zJ xY (pv 0) zq) (za (pv 1) zc))) (yU (i:=4) Zu.nd rfl (Or.inl rfl)) (zm (zH 3 Zu.nd (zJ Xj (pv 3) (zJ Yi (pv 3) (zJ Yi zq (pv 4)))))))
   (zm (zF (pv 3)))))),?_⟩
 have one:1<2^10000:=zc9 (k:=1) (by decide) (by decide)
 have h1:=zgi (n:=p) (by omega)
 have hh:2^p<2^10000:=Nat.pow_lt_pow_right (by decide) (by omega)
 have pp:=Nat.two_pow_pos (2^p)
 have e1:((1*2^(1*2^p):Nat):Int)-1=((2^2^p-1:Nat):Int):=by
  rw[Nat.one_mul,Nat.one_mul]
  omega
 have lt1:2^2^p-1<2^10000:=zrB (Nat.sub_lt pp (by decide)) (zrY (by decide) (by omega))
 refine⟨_,rfl,1,p,rfl,rfl,one,by omega,?_⟩
 refine⟨_,rfl,1,1*2^p,rfl,rfl,one,by omega,_,1,rfl,rfl,_,rfl,2^2^p-1,1*2^p,congrArg V.int e1,rfl,lt1,by omega,?_⟩
 refine⟨_,rfl,_,1,rfl,rfl,_,rfl,(p:Int)+1,(n:Int),rfl,⟨by omega,by omega,by omega,by omega⟩,?_⟩
 refine W0 (fun i σ H'=>H'=H/\∃(N:Nat) (f:Option V),σ=[some (.int p),some (.int n),some (.int ((1*2^p:Nat):Int)),some (.int N),f]/\zN (p+1+i) N (fun b=>b.testBit p)) ⟨rfl,_,_,rfl,?_⟩ ?_ ?_
 ·rw[Nat.one_mul]
  exact zgh p
 ·rintro i σ H' hi ⟨rfl,N,f,rfl,tb⟩
  have hi':p+1+i<n:=by omega
  have h2:=zgi (n:=p+1+i) (by omega)
  have e2:V.int ((p:Int)+1+(i:Nat))=V.int ((p+1+i:Nat):Int):=congrArg V.int (by omega)
  have lt2:N<2^10000:=zc9 (zhi tb) (zrO h2 (by decide))
  refine⟨_,rfl,_,rfl,_,rfl,1,p+1+i,rfl,e2,one,by omega,N,1*2^(p+1+i),rfl,rfl,lt2,by omega,N,N*2^(1*2^(p+1+i)),rfl,rfl,?_⟩
  refine⟨rfl,_,_,rfl,?_⟩
  rw[Nat.one_mul]
  exact zeB (m:=p+1+i) (by omega) tb
 ·rintro σ H' ⟨rfl,N,f,rfl,tb⟩
  have e3:p+1+((n:Int)-((p:Int)+1)).toNat=n:=by omega
  rw[e3] at tb
  exact⟨_,rfl,q N tb⟩
theorem zeZ (T:Txt P w K mg a)(yx:zA P w K mg base zU k a.xV a.xW xG wJ):zA P w K mg base zU (k+1) a.Xc a.Xd Z0 Y7:=by
 refine T.Vm.F.ok R8 (fun vs H Q E h=>?_) (fun cdv A outer s H vs Q E hr h=>?_)
 ·obtain⟨N,p,n,f,rfl,_⟩:=h
  rfl
 obtain⟨N,p,n,f,rfl,hp,hn,tb,q⟩:=h
 refine⟨_,(zf (zH 3 R8.nd (zJ uw (pv 0) (zp yx hr T.Zb (za (pv 1) (za (pv 2) zc)))))
   (zf (zH 4 R8.nd (zJ Sh (pv 0) (pv 3)))
   (zm (zF (zJ Xj (zJ ziO (pv 3) (zJ Yi zq (pv 1))) (zJ Yi (pv 4) (zJ Yi zq (pv 1)))))))),?_⟩
 have one:1<2^10000:=zc9 (k:=1) (by decide) (by decide)
 have h1:=zgi (n:=p) (by omega)
 have h2:=zgi (n:=n) (by omega)
 refine⟨_,rfl,_,rfl,_,rfl,p,n,rfl,hp,hn,fun R tr=>?_⟩
 refine⟨N,R,rfl,rfl,?_⟩
 refine⟨_,rfl,_,rfl,N,N&&&R,rfl,rfl,?_⟩
 have o:=ur tb tr
 have z:=Vz tb o
 have lt2:N ^^^ (N&&&R)<2^10000:=zc9 (zhi z) (zrO h2 (by decide))
 refine⟨_,rfl,_,rfl,1,p,rfl,rfl,one,by omega,N&&&R,1*2^p,rfl,rfl,_,rfl,_,rfl,1,p,rfl,rfl,one,by omega,N ^^^ (N&&&R),1*2^p,rfl,rfl,lt2,by omega,_,_,rfl,rfl,?_⟩
 refine q _ ?_
 rw[Nat.one_mul]
 exact zhj hp tb tr
theorem ze0 (T:Txt P w K mg a):zA P w K mg base zU (k+1) a.xO a.xP yQ (QM K):=by
 refine T.yG.F.ok Vg (fun vs H Q E h=>?_) (fun cdv A outer s H vs Q E hr h=>?_)
 ·obtain⟨l,ns,i,rfl,_⟩:=h
  rfl
 obtain⟨l,ns,i,rfl,hS,h0,q⟩:=h
 refine⟨_,(zf (yC (zL zfj (pv 1) (zO zK rfl T.wA yL (za (pv 0) zc)) (zQ _)) (zm (zF (yj yw (pv 0) (pv 1) (fun _ _=>rfl)))) z8)
   (zm (zF zq))),?_⟩
 refine⟨_,rfl,_,rfl,l,_,rfl,.inl hS,_,_,rfl,rfl,_,rfl,?_⟩
 refine yu (fun c=>?_) (fun c=>?_)
 ·have c':i<(((ns.map V.int).length:Nat):Int):=of_decide_eq_true c
  rw[zrs] at c'
  have hi:i.toNat<ns.length:=by omega
  have e:atI (ns.map V.int) i=some (.int ns[i.toNat]):=by
   have q:=vq (xs:=ns.map V.int) (j:=i.toNat) (v:=.int ns[i.toNat]) (by rw[zru,zrt hi];rfl)
   have ei:((i.toNat:Nat):Int)=i:=by omega
   rw[ei] at q
   exact q
  exact⟨_,rfl,_,rfl,l,_,i,_,rfl,rfl,hS,e,q _⟩
 ·exact q 0
theorem zjM (T:Txt P w K mg a):zA P w K mg base zU (k+1) a.uK a.uL vD Mj:=by
 refine T.xT.F.ok vN (fun vs H Q E h=>?_) (fun cdv A outer s H vs Q E hr h=>?_)
 ·obtain⟨c,m,b,rfl,_⟩:=h
  rfl
 obtain⟨c,m,b,rfl,hm,b0,b1,q⟩:=h
 refine⟨_,(zf (yC (zL zjX (pv 0) (zJ zkz zq zq) (zQ _)) (zf (zH 4 vN.nd (pv 0))
   (zf (uQ PassesOwn.never rfl (Y6 rfl T.Y5 (za (pv 1) zc)) (yU (i:=5) vN.nd rfl (Or.inl rfl)) (zm (zH 4 vN.nd (zJ zff (pv 4) (pv 2)))))
   (zm (zF (zJ Ze (pv 4) (pv 2)))))) z8)
   (zf (zH 3 vN.nd (zJ Ze (zJ Jq (zJ xY (zJ xY (zJ Ze (pv 0) zq) (zJ Jq zq (pv 1))) zq) zq) zq))
   (zf (zH 3 vN.nd (zJ Ze (zJ xY (zJ xY (zJ Jq (pv 3) (pv 3)) (zJ Jq zq (pv 1))) zq) zq))
   (zm (zF (zJ Ze (zJ zff (zJ Ze (zJ Jq (pv 3) zq) zq) zq) (pv 2))))))),?_⟩
 refine⟨_,rfl,10,18,rfl,rfl,⟨by decide,by decide,by decide⟩,_,_,rfl,rfl,_,rfl,?_⟩
 refine yu (fun _=>?_) (fun _=>?_)
 ·refine⟨_,rfl,?_⟩
  refine⟨_,rfl,(m:Int),rfl,by omega,by omega,?_⟩
  refine W0 (fun i σ H'=>H'=H/\∃(x:Int) (f1 f2:Option V),σ=[some (.int c),some (.int m),some (.int b),f1,some (.int x),f2]) ⟨rfl,c,_,_,rfl⟩ ?_ ?_
  ·rintro i σ H' hi ⟨rfl,x,f1,f2,rfl⟩
   refine⟨_,rfl,_,rfl,x,b,rfl,rfl,⟨b0,b1⟩,?_⟩
   exact⟨rfl,x / b,_,_,rfl⟩
  ·rintro σ H' ⟨rfl,x,f1,f2,rfl⟩
   refine⟨_,rfl,_,rfl,x,b,rfl,rfl,b0,?_⟩
   exact q _ (zsa _ (by omega)) (zr7 _ b0)
 ·have p1:(0:Int)<1000000007:=by decide
  have p2:(0:Int)<2147483647:=by decide
  have p3:(0:Int)<2147483629:=by decide
  refine⟨_,rfl,c,1000000007,rfl,rfl,p1,_,rfl,1009,(m:Int),rfl,rfl,.inl ⟨by decide,by decide⟩,_,_,rfl,rfl,_,17,rfl,rfl,_,69621,rfl,rfl,.inr ⟨by decide,by decide⟩,_,2147483647,rfl,rfl,p2,?_⟩
  have z0:0<=(c%1000000007+1009*(m:Int)+17)*69621%2147483647:=zsa _ (by decide)
  have z1:(c%1000000007+1009*(m:Int)+17)*69621%2147483647<2147483647:=zr7 _ p2
  refine⟨_,rfl,_,rfl,_,_,rfl,rfl,.inl ⟨Int.lt_of_lt_of_le (by decide) z0,Int.lt_trans z1 (by decide)⟩,_,rfl,40503,(m:Int),rfl,rfl,.inl ⟨by decide,by decide⟩,_,_,rfl,rfl,_,5,rfl,rfl,_,2147483629,rfl,rfl,p3,?_⟩
  refine⟨_,rfl,_,48271,rfl,rfl,.inr ⟨by decide,by decide⟩,_,2147483647,rfl,rfl,p2,_,32,rfl,rfl,⟨by decide,by decide⟩,_,rfl,_,b,rfl,rfl,b0,?_⟩
  exact q _ (zsa _ (by omega)) (zr7 _ b0)
theorem zia (T:Txt P w K mg a)(xg:zA P w K mg base zU k a.uK a.uL vD Mj):zA P w K mg base zU (k+1) a.WT a.WW Yo zbZ:=by
 refine T.Ry.F.ok Xq (fun vs H Q E h=>?_) (fun cdv A outer s H vs Q E hr h=>?_)
 ·obtain⟨c,n,rfl,_⟩:=h
  rfl
 obtain⟨c,n,rfl,hn,h8,q⟩:=h
 refine⟨_,(zf (zH 2 Xq.nd (vY zc))
   (zf (uQ PassesOwn.never rfl (Y6 rfl T.Y5 (za (zJ xY zq (zp xg hr T.xT (za (pv 0) (za zq (za (pv 1) zc))))) zc)) (yU (i:=3) Xq.nd rfl (Or.inl rfl)) (zm (z7 (ZQ PySem.F.plainAttrs_list PySem.F.slot_list_insert PySem.F.type_list_insert zgg (pv 2) (za (zJ Ze (zp xg hr T.xT (za (pv 0) (za (zJ xY zq (pv 3)) (za zq zc)))) (zJ xY (pv 3) zq)) (za (yj zew yM (pv 3) (fun _ _=>rfl)) zc))))))
   (zm (zF (pv 2))))),?_⟩
 refine⟨by show 0<=sizeLine;decide,fun l hl=>?_⟩
 refine⟨_,rfl,_,rfl,c,0,(n:Int),rfl,by decide,by omega,by omega,fun r r0 r1=>?_⟩
 refine⟨1,r,rfl,rfl,1+r,rfl,by omega,by omega,?_⟩
 refine W0 (fun i σ H'=>∃(os:List Str) (f1:Option V),Same H H'/\H' l=some (.lst (os.map V.str))/\os.Nodup/\os.length=i/\(∀x∈os,x∈vV.take i)/\σ=[some (.int c),some (.int n),some (.ref l),f1])
  ⟨[],_,QL hl _,zj,List.nodup_nil,rfl,(fun _ h=>nomatch h),rfl⟩ ?_ ?_
 ·rintro i σ H' hi ⟨os,f1,g,hl',nd,le,mem,rfl⟩
  have i8:i<8:=by omega
  obtain⟨ch,hc1,hc2⟩:=ziS i8
  have e1:(1:Int)+(0+(i:Nat))=((1+i:Nat):Int):=by omega
  have e2:(0:Int)+(i:Nat)=((i:Nat):Int):=by omega
  refine⟨_,rfl,.inl ⟨rfl,_,zX.of hl'⟩,?_⟩
  refine⟨_,rfl,_,rfl,1,_,rfl,rfl,c,1+i,5040,congrArg (fun z=>[V.int c,V.int z,V.int 5040]) e1,by omega,by decide,by decide,fun r' s0 s1=>?_⟩
  refine⟨_,rfl,_,1,rfl,rfl,r',_,rfl,rfl,by show(0:Int)<0+(i:Nat)+1;omega,?_⟩
  refine⟨_,rfl,_,(i:Int),ch,rfl,congrArg V.int e2,by show(Str.ofString "abcdefgh").length<=sizeLine;decide,hc1,?_⟩
  have m0:0<=r'%(0+(i:Nat)+1):=zsa _ (by omega)
  have m1:r'%(0+(i:Nat)+1)<0+(i:Nat)+1:=zr7 _ (by omega)
  generalize hj:r'%(0+((i:Nat):Int)+1)=j at m0 m1
  refine⟨l,os.map V.str,j,_,rfl,by rw[<-hj],hl',m0,by rw[zrs];omega,by rw[zrs];exact zrB (show os.length<9 by omega) (by decide),?_⟩
  have nm:(⟨#[ch]⟩:Str)∉os:=fun hm=>zhl hc2 (mem _ hm)
  have ml:∀x∈vV.take i,x∈vV.take (i+1):=fun x hx=>by
   rw[List.take_succ]
   exact List.mem_append_left _ hx
  have mn:(⟨#[ch]⟩:Str)∈vV.take (i+1):=by
   rw[List.take_succ,hc2]
   exact zrJ _ (by simp)
  refine⟨os.take j.toNat++(⟨#[ch]⟩:Str)::os.drop j.toNat,_,?_,?_,?_,?_,?_,rfl⟩
  ·exact fun b o hb=>by rw[zB (zy hb hl)];exact g b o hb
  ·rw[zj]
   simp
  ·refine List.perm_middle.nodup_iff.mpr (List.nodup_cons.mpr ⟨?_,?_⟩)
   ·rw[List.take_append_drop];exact nm
   ·rw[List.take_append_drop];exact nd
  ·rw[zrA,zrE,zrQ,List.length_drop]
   omega
  ·intro x hx
   rcases List.mem_append.mp hx with z | z
   ·exact ml x (mem x (List.mem_of_mem_take z))
   ·rcases List.mem_cons.mp z with z | z
    ·rw[z];exact mn
    ·exact ml x (mem x (List.mem_of_mem_drop z))
 ·rintro σ H' ⟨os,f1,g,hl',nd,le,mem,rfl⟩
  refine⟨_,rfl,q l H' os g hl' ⟨nd,fun x hx=>List.mem_of_mem_take (mem x hx),by omega⟩ (by omega)⟩
theorem zdU (T:Txt P w K mg a)(yR:zA P w K mg base zU k a.xO a.xP yQ (QM K))(xg:zA P w K mg base zU k a.uK a.uL vD Mj) :
  zA P w K mg base zU (k+1) a.Z7 a.Z8 uF (RM K):=by
 refine T.Z9.F.ok yr (fun vs H Q E h=>?_) (fun cdv A outer s H vs Q E hr h=>?_)
 ·obtain⟨sc,ol,ns,t,m,os,rfl,_⟩:=h
  rfl
 obtain⟨sc,ol,ns,t,m,os,rfl,hS,hO,o0,o8,m0,m40,t60,q⟩:=h
 obtain⟨st0,h0⟩:∃st0,st0=(vR vf).headD (.Pass ⟨0,0,0,0⟩):=⟨_,rfl⟩
 have hb:vR vf=st0::(vR vf).tail:=by rw[h0];rfl
 rw[hb]
 have hk:zbX st0=some (Str.ofString "kinds", RL):=by rw[h0];rfl
 refine⟨_,zf (ziR (i:=4) hk yr.nd rfl (Or.inl rfl) (.inl rfl)) (zf (zH 5 yr.nd (vY (za (uT (za yM (za (yj yw (pv 3) (zJ Ze (zp xg hr T.xT (za (zp yR hr T.yG (za (pv 0) (za (pv 1) zc))) (za zq (za zq zc)))) (zO zK rfl T.wA yL (za (pv 3) zc))) (fun _ _=>rfl)) zc))) zc)))
   (zf (uQ PassesOwn.never rfl (za3 rfl T.Y5 (za zq (za (pv 2) zc))) (yU (i:=6) yr.nd rfl (Or.inl rfl)) (zf (zH 7 yr.nd (zp yR hr T.yG (za (pv 0) (za (zJ xY (pv 1) (pv 6)) zc))))
   (zf (zH 8 yr.nd (yj yw (pv 4) (zp xg hr T.xT (za (pv 7) (za zq (za zq zc)))) (fun _ _=>rfl)))
   (zf (zH 9 yr.nd (yj yw (pv 5) (zJ Jp (zjW zgS zq) (zJ Ze (zp xg hr T.xT (za (pv 7) (za zq (za zq zc)))) (zO zK rfl T.wA yL (za (pv 5) zc)))) (fun _ _=>rfl)))
   (zf (zH 10 yr.nd (yj yw (pv 5) (zJ Ze (zp xg hr T.xT (za (pv 7) (za zq (za zq zc)))) (zO zK rfl T.wA yL (za (pv 5) zc))) (fun _ _=>rfl)))
   (zf (zH 11 yr.nd (yj yw (pv 3) (zJ Ze (zp xg hr T.xT (za (pv 7) (za zq (za zq zc)))) (zO zK rfl T.wA yL (za (pv 3) zc))) (fun _ _=>rfl)))
   (zm (yC (PW.pt (Jl (zL xr (pv 8) yM (zQ _)) (N7 (zL xr (pv 8) yM (zQ _))))) (zm (z7 (ZQ PySem.F.plainAttrs_list PySem.F.slot_list_append PySem.F.type_list_append tY (pv 5) (za (uT (za (pv 8) zc)) zc)))) (zm (yC (zL xr (pv 8) yM (zQ _)) (zm (z7 (ZQ PySem.F.plainAttrs_list PySem.F.slot_list_append PySem.F.type_list_append tY (pv 5) (za (uT (za yM (za (pv 11) zc))) zc)))) (zm (yC (zL xr (pv 8) yM (zQ _)) (zm (z7 (ZQ PySem.F.plainAttrs_list PySem.F.slot_list_append PySem.F.type_list_append tY (pv 5) (za (uT (za yM (za (pv 9) zc))) zc)))) (zm (yC (PW.pt (Jl (zL xr (pv 8) yM (zQ _)) (N7 (zL xr (pv 8) yM (zQ _))))) (zm (z7 (ZQ PySem.F.plainAttrs_list PySem.F.slot_list_append PySem.F.type_list_append tY (pv 5) (za (uT (za (pv 8) (za (pv 11) (za (pv 9) zc)))) zc)))) (zm (z7 (ZQ PySem.F.plainAttrs_list PySem.F.slot_list_append PySem.F.type_list_append tY (pv 5) (za (uT (za (pv 8) (za (pv 10) (za (pv 9) zc)))) zc))))))))))))))))))
   (zm (zF (yj yw (pv 5) (zjW zgS zq) (fun _ _=>rfl)))))),?_⟩
 refine⟨by show 14<=sizeLine;decide,fun kd hkd=>?_⟩
 have g1:=QL hkd (.lst (RL.map V.str))
 have hS1:=g1.seq hS
 have hO1:=g1.seq hO
 refine⟨_,rfl,_,rfl,_,rfl,sc,ns,(t:Int),rfl,hS1,by omega,fun c0=>?_⟩
 refine⟨c0,3,40320,rfl,by decide,by decide,by decide,fun r0 _ _=>?_⟩
 obtain⟨x0,hx0,hx0'⟩:=Ly o0 r0
 have pl:(0:Int)<((os.map V.str).length:Nat):=by rw[zrs];omega
 refine⟨_,rfl,ol,_,rfl,.inl hO1,_,_,rfl,rfl,pl,ol,_,_,.str x0,rfl,rfl,hO1,hx0',by show 2<=sizeLine;decide,fun p0 hp0=>?_⟩
 refine⟨by show 1<=sizeLine;decide,fun md hmd=>?_⟩
 have g2:=QL hp0 (.tup [.str "mark", .str x0])
 have g3:=QL hmd (.lst [.ref p0])
 have f0:H md=none:=(g1.trans g2).free hmd
 have nk:md≠kd:=Ne.symm (zy (g2 _ _ zj) hmd)
 have M0:Made H (upd (upd (upd H kd (.lst (RL.map V.str))) p0 (.tup [.str "mark", .str x0])) md (.lst [.ref p0])) os md kd [p0] 1:=by
  refine⟨g1.trans (g2.trans g3),zj,g3 _ _ (g2 _ _ zj),by simp,fun p hp=>?_⟩
  have e:p=p0:=by simpa using hp
  subst e
  exact⟨.mk x0,g3 _ _ zj,hx0,zrI _⟩
 refine⟨_,rfl,1,(m:Int),rfl,⟨by omega,by omega,by omega,by omega⟩,?_⟩
 refine W0 (fun i σ H'=>∃(ps:List Addr) (f1 f2 f3 f4 f5 f6:Option V),Made H H' os md kd ps (i+1)/\ps.length=i+1/\σ=[some (.ref sc),some (.int t),some (.int m),some (.ref ol),some (.ref kd),some (.ref md),f1,f2,f3,f4,f5,f6])
  ⟨[p0],_,_,_,_,_,_,M0,rfl,rfl⟩ ?_ ?_
 ·rintro i σ H' hi ⟨ps,f1,f2,f3,f4,f5,f6,M,lp,rfl⟩
  have hS2:=M.old.seq hS
  have hO2:=M.old.seq hO
  have e1:(t:Int)+(1+(i:Nat))=((t+(1+i):Nat):Int):=by omega
  refine⟨_,rfl,_,rfl,_,rfl,_,_,rfl,rfl,sc,ns,_,rfl,hS2,by omega,fun c=>?_⟩
  refine⟨_,rfl,_,rfl,c,0,14,rfl,by decide,by decide,by decide,fun d d0 d1=>?_⟩
  obtain⟨jk,vk,qk1,qk2⟩:=zb0 (xs:=RL.map V.str) (i:=d) (by show -((14:Nat):Int)<=d;omega) (by show d<((14:Nat):Int);omega)
  obtain⟨kind,hkm,hkv⟩:∃kind,kind∈RL/\vk=.str kind:=by
   rw[zru] at qk2
   cases hx:RL[jk]? with
   | none=>rw[hx] at qk2;cases qk2
   | some x=>rw[hx] at qk2;cases qk2;exact⟨x,zrx hx,rfl⟩
  subst hkv
  refine⟨kd,_,_,_,rfl,rfl,zX.of M.kin,qk1,?_⟩
  have lm:((ps.map V.ref).length:Nat)=i+1:=by rw[zrs];exact lp
  have pm:(0:Int)<((ps.map V.ref).length:Nat):=by rw[lm];omega
  refine⟨_,rfl,1,rfl,_,rfl,c,1,2,rfl,by decide,by decide,by decide,fun d2 _ _=>?_⟩
  refine⟨_,rfl,md,_,rfl,.inl (zX.of M.mad),_,_,rfl,rfl,pm,_,_,rfl,rfl,?_⟩
  have a0:=zsa d2 (show((ps.map V.ref).length:Int)≠0 by omega)
  have a1:=zr7 d2 pm
  obtain⟨q1,hq1,hq1'⟩:=Ml (ps:=ps) (i:=-1-d2%((ps.map V.ref).length:Nat)) (by rw[lm] at a0 a1 ⊢;omega) (by rw[lm] at a0 a1 ⊢;omega)
  refine⟨md,_,_,_,rfl,rfl,zX.of M.mad,hq1',?_⟩
  refine⟨_,rfl,_,rfl,c,2,60,rfl,by decide,by decide,by decide,fun d3 _ _=>?_⟩
  refine⟨_,rfl,md,_,rfl,.inl (zX.of M.mad),_,_,rfl,rfl,pm,?_⟩
  have b0:=zsa d3 (show((ps.map V.ref).length:Int)≠0 by omega)
  have b1:=zr7 d3 pm
  obtain⟨q2,hq2,hq2'⟩:=Ml (ps:=ps) (i:=d3%((ps.map V.ref).length:Nat)) (by rw[lm] at b0 b1 ⊢;omega) (by rw[lm] at b0 b1 ⊢;omega)
  refine⟨md,_,_,_,rfl,rfl,zX.of M.mad,hq2',?_⟩
  refine⟨_,rfl,_,rfl,c,3,40320,rfl,by decide,by decide,by decide,fun d4 _ _=>?_⟩
  obtain⟨x,hx,hx'⟩:=Ly o0 d4
  refine⟨_,rfl,ol,_,rfl,.inl hO2,_,_,rfl,rfl,pl,ol,_,_,.str x,rfl,rfl,hO2,hx',?_⟩
  obtain⟨s1,s1i,s1o,s1d⟩:=M.all q1 hq1
  obtain⟨s2,s2i,s2o,s2d⟩:=M.all q2 hq2
  have big:ps.length<sizeLine:=Nat.lt_of_le_of_lt (show ps.length<=100 by omega) (by decide)
  have ze1:(ps.map V.ref).length<sizeLine:=by rw[zrs];exact big
  have mdu:∀(p:Addr) (o:HO),H' p=none->(upd H' p o) md=some (.lst (ps.map V.ref)):=fun p o hp=>by rw[zB (zy M.mad hp)];exact M.mad
  have fin:∀(p:Addr) (xs:List V) (s':Sn),H' p=none->Ra (upd H' p (.tup xs)) s' p->s'.QK os->s'.depth<=i+1+1 ->
    ∃(ps':List Addr) (f1 f2 f3 f4 f5 f6:Option V),Made H (upd (upd H' p (.tup xs)) md (.lst (ps.map V.ref++[.ref p]))) os md kd ps' (i+1+1)/\ps'.length=i+1+1 /\
     [some (.ref sc),some (.int t),some (.int m),some (.ref ol),some (.ref kd),some (.ref md),some (.int (1+(i:Nat))),some (.int c),some (.str kind),some (.ref q1),some (.ref q2),some (.str x)]=[some (.ref sc),some (.int t),some (.int m),some (.ref ol),some (.ref kd),some (.ref md),f1,f2,f3,f4,f5,f6]:=fun p xs s' hp hs ho hd=>by
   have:=M.push f0 hp hs ho hd nk
   rw[zrG] at this
   exact⟨ps++[p],_,_,_,_,_,_,this,by simp[lp],rfl⟩
  refine⟨_,rfl,rfl,_,rfl,yu (fun c1=>?_) (fun c1=>?_)⟩
  ·have ek:kind="yes" := by have:=of_decide_eq_true c1;cases this;rfl
   subst ek
   refine zaC ⟨_,rfl,.inl ⟨rfl,_,zX.of M.mad⟩,_,rfl,by show 1<=sizeLine;decide,fun p hp=>⟨md,_,_,rfl,rfl,mdu p _ hp,ze1,?_⟩⟩
   exact fin p _ (.c0 true) hp zj trivial (by show 1<=_;omega)
  have n1:kind ≠ "yes" := fun e=>c1 (decide_eq_true (by rw[e]))
  refine⟨_,rfl,rfl,_,rfl,yu (fun c2=>?_) (fun c2=>?_)⟩
  ·have ek:kind="no" := by have:=of_decide_eq_true c2;cases this;rfl
   subst ek
   refine⟨_,rfl,.inl ⟨rfl,_,zX.of M.mad⟩,_,rfl,by show 1<=sizeLine;decide,fun p hp=>⟨md,_,_,rfl,rfl,mdu p _ hp,ze1,?_⟩⟩
   exact fin p _ (.c0 false) hp zj trivial (by show 1<=_;omega)
  have n2:kind ≠ "no" := fun e=>c2 (decide_eq_true (by rw[e]))
  refine⟨_,rfl,rfl,_,rfl,yu (fun c3=>?_) (fun c3=>?_)⟩
  ·have ek:kind="mark" := by have:=of_decide_eq_true c3;cases this;rfl
   subst ek
   refine⟨_,rfl,.inl ⟨rfl,_,zX.of M.mad⟩,_,rfl,by show 2<=sizeLine;decide,fun p hp=>⟨md,_,_,rfl,rfl,mdu p _ hp,ze1,?_⟩⟩
   exact fin p _ (.mk x) hp zj hx (by show 1<=_;omega)
  have n3:kind ≠ "mark" := fun e=>c3 (decide_eq_true (by rw[e]))
  refine⟨_,rfl,rfl,_,rfl,yu (fun c4=>?_) (fun c4=>?_)⟩
  ·have ek:kind="not" := by have:=of_decide_eq_true c4;cases this;rfl
   subst ek
   refine⟨_,rfl,.inl ⟨rfl,_,zX.of M.mad⟩,_,rfl,by show 2<=sizeLine;decide,fun p hp=>⟨md,_,_,rfl,rfl,mdu p _ hp,ze1,?_⟩⟩
   exact fin p _ (.nt s1) hp ⟨q1,zj,s1i.mono (yH.new hp _)⟩ s1o (by show 1+s1.depth<=_;omega)
  have n4:kind ≠ "not" := fun e=>c4 (decide_eq_true (by rw[e]))
  refine⟨_,rfl,rfl,_,rfl,yu (fun c5=>?_) (fun c5=>?_)⟩
  ·have ek:kind="some" := by have:=of_decide_eq_true c5;cases this;rfl
   subst ek
   refine zaC ⟨_,rfl,.inl ⟨rfl,_,zX.of M.mad⟩,_,rfl,_,rfl,_,rfl,by show 3<=sizeLine;decide,fun p hp=>⟨md,_,_,rfl,rfl,mdu p _ hp,ze1,?_⟩⟩
   exact fin p _ (.q1 true x s1) hp ⟨q1,zj,s1i.mono (yH.new hp _)⟩ ⟨hx,s1o⟩ (by show 1+s1.depth<=_;omega)
  have n5:kind ≠ "some" := fun e=>c5 (decide_eq_true (by rw[e]))
  refine⟨_,rfl,rfl,_,rfl,yu (fun c6=>?_) (fun c6=>?_)⟩
  ·have ek:kind="each" := by have:=of_decide_eq_true c6;cases this;rfl
   subst ek
   refine⟨_,rfl,.inl ⟨rfl,_,zX.of M.mad⟩,_,rfl,_,rfl,_,rfl,by show 3<=sizeLine;decide,fun p hp=>⟨md,_,_,rfl,rfl,mdu p _ hp,ze1,?_⟩⟩
   exact fin p _ (.q1 false x s1) hp ⟨q1,zj,s1i.mono (yH.new hp _)⟩ ⟨hx,s1o⟩ (by show 1+s1.depth<=_;omega)
  have n6:kind ≠ "each" := fun e=>c6 (decide_eq_true (by rw[e]))
  obtain⟨o,ho⟩:∃o:Fin 4,kind=w2 o:=by
   have:kind∈([Str.ofString "mark", Str.ofString "mark", Str.ofString "not", Str.ofString "and", Str.ofString "or", Str.ofString "either", Str.ofString "if", Str.ofString "and", Str.ofString "or", Str.ofString "some", Str.ofString "each", Str.ofString "yes", Str.ofString "no", Str.ofString "mark"]:List Str):=hkm
   simp only[List.mem_cons,zrT,or_false] at this
   rcases this with h | h | h | h | h | h | h | h | h | h | h | h | h | h<;>first | exact absurd h n1 | exact absurd h n2 | exact absurd h n3 | exact absurd h n4 | exact absurd h n5 | exact absurd h n6 | exact⟨0,h⟩ | exact⟨1,h⟩ | exact⟨2,h⟩ | exact⟨3,h⟩
  subst ho
  refine⟨_,rfl,.inl ⟨rfl,_,zX.of M.mad⟩,_,rfl,_,rfl,_,rfl,by show 3<=sizeLine;decide,fun p hp=>⟨md,_,_,rfl,rfl,mdu p _ hp,ze1,?_⟩⟩
  exact fin p _ (.b2 o s2 s1) hp ⟨q2,q1,zj,s2i.mono (yH.new hp _),s1i.mono (yH.new hp _)⟩ ⟨s2o,s1o⟩ (by show 1+max s2.depth s1.depth<=_;omega)
 ·rintro σ H' ⟨ps,f1,f2,f3,f4,f5,f6,M,lp,rfl⟩
  obtain⟨p,hp,hp'⟩:=Ml (ps:=ps) (i:=-1) (by omega) (by omega)
  obtain⟨s',z1,z2,z3⟩:=M.all p hp
  have e:((m:Int)-1).toNat+1=m:=by omega
  rw[e] at z3
  exact⟨_,rfl,1,rfl,md,_,-1,_,rfl,rfl,zX.of M.mad,hp',q p H' s' M.old z1 z2 z3⟩
theorem ze2 (T:Txt P w K mg a):zA P w K mg base zU (k+1) a.Vh a.Vi Xa W5:=by
 refine T.La.F.ok zeV (fun vs H Q E h=>?_) (fun cdv A outer s H vs Q E hr h=>?_)
 ·obtain⟨x,rfl,_⟩:=h
  rfl
 obtain⟨x,rfl,q⟩:=h
 refine⟨_,(zm (zF (YK Mf (pv 0) (XM (v:=.ref a.Jg) rfl T.zjH rfl) (by with_unfolding_all rfl)))),?_⟩
 refine⟨_,rfl,a.Jg,vV.map V.str,rfl,.inr (T.zjI H),rfl,W4 _,?_⟩
 show Q (.bl (inV (.str x) (vV.map V.str))) H
 rw[zdc]
 exact q
theorem zdV (T:Txt P w K mg a)(Le:zA P w K mg base zU k a.Vh a.Vi Xa W5):zA P w K mg base zU (k+1) a.Qe a.Qg VN (Mr K):=by
 refine T.zaf.F.ok zdK (fun vs H Q E h=>?_) (fun cdv A outer s H vs Q E hr h=>?_)
 ·obtain⟨l,os,rfl,_⟩:=h
  rfl
 obtain⟨l,os,rfl,hq,h100,q⟩:=h
 refine⟨_,(zm (zF (zbM (YK Jr (zO zK rfl T.wA yL (za (pv 0) zc)) zq (zQ _)) (zbM (zO (Uz rfl) rfl T.zdS JD (za (tK (vX:=zx Qa) (js:=[]) rfl (by show Yt _ _ "letter" [];exact lco (by decide +kernel)) rfl (wu (pv 0)) (by show ∀j∈([]:List Nat),j<1;decide) (fun cl C s₂ H₂ fp=>(zp Le hr T.La (za (pv 0) zc)))) zc)) (zee (YK xr (zO call_len_set' rfl T.wA yL (za (tX (zhd rfl) rfl T.zmM zkQ (za (pv 0) zc)) zc)) (zO zK rfl T.wA yL (za (pv 0) zc)) (zQ _))))))),?_⟩
 have hlen:(os.map V.str).length=os.length:=zrs _
 refine⟨_,rfl,l,_,rfl,.inl hq,_,_,rfl,rfl,_,rfl,yu (fun c=>?_) (fun c=>?_)⟩
 ·have c':0<os.length:=by have:=of_decide_eq_true c;rw[hlen] at this;omega
  refine⟨_,rfl,l,rfl,⟨_,hq⟩,zfv (fun x v=>v=(match x with | .str y=>.bl (decide (y∈vV)) | _=>.non)) hq (by rw[hlen];exact zrL (zY (by omega))) ?_ (zhm Lz) ?_⟩
  ·intro i x H' hx g
   rw[zru] at hx
   cases ho:os[i]? with
   | none=>rw[ho] at hx;cases hx
   | some y =>
    rw[ho] at hx
    cases hx
    exact⟨_,rfl,y,rfl,rfl,g⟩
  ·intro ys H' p hr' g hp
   have e:=JG (f:=fun x=>match x with | .str y=>.bl (decide (y∈vV)) | _=>.non) hr'
   rw[zr4] at e
   have e2:ys=(os.map fun y=>decide (y∈vV)).map V.bl:=by rw[e,zr4];rfl
   subst e2
   have g1:=Same.new hp (.lst ((os.map fun y=>decide (y∈vV)).map V.bl))
   refine⟨p,_,rfl,zX.of zj,_,rfl,yu (fun c2=>?_) (fun c2=>?_)⟩
   ·have hq2:=(g.trans g1).seq hq
    refine⟨_,rfl,l,os,rfl,hq2,h100,fun z hz=>⟨z,_,rfl,zj,?_⟩⟩
    have g2:=Same.new hz (ziK P w z (dd os).length)
    refine⟨_,rfl,l,_,rfl,.inl (g2.seq hq2),rfl,?_⟩
    have e3:decide (V.int ((dd os).length:Nat)=V.int ((os.map V.str).length:Nat))=zb3 os:=by
     unfold zb3
     have c2':os.all (fun x=>decide (x∈vV))=true:=by rw[List.all_map] at c2;exact c2
     rw[decide_eq_true c',c2',hlen]
     by_cases nd:os.Nodup
     ·rw[decide_eq_true nd,zg9 nd];simp
     ·have:=zkO nd
      rw[decide_eq_false nd,decide_eq_false (fun z=>by injection z with z;omega)];rfl
    rw[e3]
    exact q _ ((g.trans g1).trans g2)
   ·have e4:zb3 os=false:=by
     unfold zb3
     have c2':os.all (fun x=>decide (x∈vV))=false:=by
      rw[List.all_map] at c2
      exact Bool.eq_false_iff.mpr c2
     rw[c2',Bool.false_and,Bool.and_false]
    rw[<-e4]
    exact q _ (g.trans g1)
 ·have e4:zb3 os=false:=by
   unfold zb3
   rw[decide_eq_false (fun z=>c (decide_eq_true (by rw[hlen];omega))),Bool.false_and]
  rw[<-e4]
  exact q _ (Same.refl _)
theorem zaQ (T:Txt P w K mg a):zA P w K mg base zU (k+1) a.Zw a.Zx uD Yu:=by
 refine T.V9.F.ok zaJ (fun vs H Q E h=>?_) (fun cdv A outer s H vs Q E hr h=>?_)
 ·obtain⟨p,x,m,n,rest,rfl,_⟩:=h
  rfl
 obtain⟨p,x,m,n,rest,rfl,hp,hm,hl,q⟩:=h
 refine⟨_,(zm (zF (QD zg0 (pv 0) (QC zq) (QC (zJ xY zq (yj tH (yj (zbW T.XF.d) (XM (v:=.ref a.Vl) rfl T.Nv rfl) (yj tH (pv 0) zq (fun _ _=>rfl)) (fun _ _=>rfl)) zq (fun _ _=>rfl))))))),?_⟩
 obtain⟨pt,hv,hpt⟩:=T.XF.y x m n hm
 refine⟨_,rfl,1,rfl,_,rfl,p,_,0,_,rfl,rfl,vp.of hp,at0,x,.ref pt,.ref pt,rfl,rfl,hv,rfl,pt,_,0,_,rfl,rfl,hpt H,at0,1,(m:Int),rfl,rfl,_,rfl,p,_,rfl,vp.of hp,JK (by decide),fun z hz=>?_⟩
 rw[zhn hl]
 exact q z hz
theorem zdW (T:Txt P w K mg a):zA P w K mg base zU (k+1) a.tO a.tQ v8 ZV:=by
 refine T.Ua.F.ok zdL (fun vs H Q E h=>?_) (fun cdv A outer s H vs Q E hr h=>?_)
 ·obtain⟨p,x,m,n,rest,rfl,_⟩:=h
  rfl
 obtain⟨p,x,m,n,rest,rfl,hp,hm,hl,q⟩:=h
 refine⟨_,(zm (zF (QD zg0 (pv 0) (QC (zJ xY zq (yj tH (yj (zbW T.XF.d) (XM (v:=.ref a.Vl) rfl T.Nv rfl) (yj tH (pv 0) zq (fun _ _=>rfl)) (fun _ _=>rfl)) zq (fun _ _=>rfl)))) zbP))),?_⟩
 obtain⟨pt,hv,hpt⟩:=T.XF.y x m n hm
 refine⟨_,rfl,_,rfl,p,_,0,_,rfl,rfl,vp.of hp,at0,x,.ref pt,.ref pt,rfl,rfl,hv,rfl,pt,_,0,_,rfl,rfl,hpt H,at0,1,(m:Int),rfl,rfl,_,rfl,p,_,rfl,vp.of hp,JK (by omega),fun z hz=>?_⟩
 rw[zho hl]
 exact q z hz
theorem KY (T:Txt P w K mg a)(uh:zA P w K mg base zU k a.tO a.tQ v8 ZV):zA P w K mg base zU (k+1) a.Zy a.Zz v9 (YM K):=by
 refine T.Xz.F.ok Yy (fun vs H Q E h=>?_) (fun cdv A outer s H vs Q E hr h=>?_)
 ·obtain⟨l,ss,ps,rfl,_⟩:=h
  rfl
 obtain⟨l,ss,ps,rfl,hl,hp,hz,q⟩:=h
 refine⟨_,(zf (zH 1 Yy.nd (vY zc))
   (zf (uQ PassesOwn.never rfl (wu (pv 0)) (yU (i:=2) Yy.nd rfl (Or.inl rfl)) (zm (z7 (ZQ PySem.F.plainAttrs_list PySem.F.slot_list_extend PySem.F.type_list_extend JB (pv 1) (za (zp uh hr T.Ua (za (pv 2) zc)) zc)))))
   (zm (zF (pv 1))))),?_⟩
 have pl:=Zg hp
 refine⟨by show 0<=sizeLine;decide,fun f hf=>?_⟩
 have g0:=Same.new hf (.lst [])
 refine⟨_,rfl,l,rfl,⟨_,g0.seq hl⟩,?_⟩
 refine Zd (xs:=ps.map V.ref) (fun i σ H'=>∃(qs:List Addr) (f1:Option V),Same H H'/\H' f=some (.lst (qs.map V.ref))/\Paired (Ra H') ((ss.take i).flatMap Sn.parts) qs/\qs.length<=2*i/\i<=ss.length/\σ=[some (.ref l),some (.ref f),f1])
  ⟨[],_,g0,zj,.nil,by simp,zrP _,rfl⟩ ?_ ?_ ?_
 ·rintro i σ H' _ ⟨qs,f1,g,_⟩
  exact g.seq hl
 ·rintro i x σ H' hx ⟨qs,f1,g,hf',hqs,lq,li,rfl⟩
  rw[zru] at hx
  cases ho:ps[i]? with
  | none=>rw[ho] at hx;cases hx
  | some p =>
   rw[ho] at hx
   cases hx
   obtain⟨sn,hsn,isp⟩:=QV hp ho
   have hlt:=(zrv.mp hsn).1
   obtain⟨zs,c1,c2,c3,c4,c5⟩:=QX (isp.mono (yH.of g))
   have lz:=Zg c2
   have lp2:=Sn.QW sn
   refine⟨_,rfl,.inl ⟨rfl,_,zX.of hf'⟩,_,rfl,p,sn.word,sn.letters.length,sn.parts.length,_,rfl,c1,Zh sn,c3,fun b hb=>?_⟩
   rw[c5]
   have nfb:f≠b:=zy hf' hb
   have hf2:(upd H' b (.tup (zs.map V.ref))) f=some (.lst (qs.map V.ref)):=by rw[zB nfb];exact hf'
   refine⟨f,b,qs.map V.ref,zs.map V.ref,rfl,rfl,hf2,?_,?_,?_⟩
   ·exact vp.of zj
   ·rw[zrs,zrs]
    exact zrL (zY (by omega))
   ·refine⟨qs++zs,_,(g.trans (Same.new hb _)).over hf _,by rw[zj,zrG],?_,?_,hlt,rfl⟩
    ·rw[zZ hsn,List.flatMap_append,List.flatMap_singleton]
     have t1:yH H' (upd (upd H' b (.tup (zs.map V.ref))) f (.lst (qs.map V.ref++zs.map V.ref))):=(yH.new hb _).trans (yH.lst hf2 _)
     exact Mp (Wu (fun _ _ z=>z.mono t1) hqs) (Wu (fun _ _ z=>z.mono t1) c2)
    ·rw[zrA];omega
 ·rintro σ H' ⟨qs,f1,g,hf',hqs,lq,li,rfl⟩
  rw[zrs,<-pl,zrV] at hqs
  exact⟨_,rfl,q f H' qs g hf hf' hqs⟩
theorem zcF (T:Txt P w K mg a)(Le:zA P w K mg base zU k a.Vh a.Vi Xa W5)(Ub:zA P w K mg base zU k a.Zw a.Zx uD Yu)(uh:zA P w K mg base zU k a.tO a.tQ v8 ZV) :
  zA P w K mg base zU (k+1) a.Tw a.Tz X8 QZ:=by
 refine T.Kr.F.ok PN (fun vs H Q E h=>?_) (fun cdv A outer s H vs Q E hr h=>?_)
 ·obtain⟨p,s,rfl,_⟩:=h
  rfl
 obtain⟨p,sn,rfl,isp,hle,q⟩:=h
 refine⟨_,(zf (yC (PW.pt (Jl (zL xr (zO zK rfl T.wA yL (za (pv 0) zc)) zq (zQ _)) (Jl (Uu (Ys (zO Lq rfl T.Nx Rj (za (yj tH (pv 0) zq (fun _ _=>rfl)) (za (zfd (v:=.ty "str") rfl T.zmN zkP rfl) zc))) (fun _=>rfl))) (N7 (zL (zaE T.XF.d) (yj tH (pv 0) zq (fun _ _=>rfl)) (XM (v:=.ref a.Vl) rfl T.Nv rfl) (by with_unfolding_all rfl)))))) (zm (zF Ri)) z8)
   (zf (zH 1 PN.nd (yj (zbW T.XF.d) (XM (v:=.ref a.Vl) rfl T.Nv rfl) (yj tH (pv 0) zq (fun _ _=>rfl)) (fun _ _=>rfl)))
   (zf (yC (zL za5 (zO zK rfl T.wA yL (za (pv 0) zc)) (zJ xY (zJ xY zq (yj tH (pv 1) zq (fun _ _=>rfl))) (yj tH (pv 1) zq (fun _ _=>rfl))) (zQ _)) (zm (zF Ri)) z8)
   (zf (yC (Uu (Ys (zO (Uz rfl) rfl T.zdS JD (za (tK (vX:=zx X7) (js:=[]) rfl (by show Yt _ _ "letter" [];exact lco (by decide +kernel)) rfl (RD (zp Ub hr T.V9 (za (pv 0) zc))) (by show ∀j∈([]:List Nat),j<2;decide) (fun cl C s₂ H₂ fp=>(zp Le hr T.La (za (pv 0) zc)))) zc)) (fun _=>rfl))) (zm (zF Ri)) z8)
   (zm (zF (zO (Uz rfl) rfl T.zdS JD (za (tK (vX:=zx X7) (js:=[]) rfl (by show Yt _ _ "part" [];exact lco (by decide +kernel)) rfl (RD (zp uh hr T.Ua (za (pv 0) zc))) (by show ∀j∈([]:List Nat),j<2;decide) (fun cl C s₂ H₂ fp=>(zO (zb1 (K:=K) rfl) rfl T.Nx Rj (za (pv 0) (za (zfd (v:=.ty "tuple") rfl T.zjL zhf rfl) zc))))) zc)))))))),?_⟩
 obtain⟨zs,c1,c2,c3,c4,c5⟩:=QX isp
 have lz:=Zg c2
 obtain⟨pt,hv,hpt⟩:=T.XF.y _ _ _ (Zh sn)
 have lp2:=Sn.QW sn
 have ll1:=Sn.JL sn
 refine⟨_,rfl,p,_,rfl,.inr (vp.of c1),rfl,_,rfl,yu (fun c=>?_) (fun _=>?_)⟩
 ·exfalso
  have:=of_decide_eq_true c
  injection this with this
  rw[zrE] at this
  omega
 refine⟨_,rfl,p,_,0,_,rfl,rfl,vp.of c1,at0,_,_,_,true,rfl,.str sn.word,rfl,_,rfl,RK ?_⟩
 refine⟨_,rfl,p,_,0,_,rfl,rfl,vp.of c1,at0,sn.word,rfl,rfl,_,rfl,?_⟩
 rw[hv]
 refine RK ?_
 refine⟨_,rfl,p,_,0,_,rfl,rfl,vp.of c1,at0,sn.word,.ref pt,.ref pt,rfl,rfl,hv,rfl,?_⟩
 refine⟨_,rfl,p,_,rfl,.inr (vp.of c1),_,rfl,pt,_,0,_,rfl,rfl,hpt H,at0,1,_,rfl,rfl,_,rfl,pt,_,1,_,rfl,rfl,hpt H,at1,_,_,rfl,rfl,rfl,_,rfl,yu (fun c=>?_) (fun _=>?_)⟩
 ·exfalso
  have z:V.int ((VC sn zs).length:Nat)=V.int (1+((sn.letters.length:Nat):Int)+((sn.parts.length:Nat):Int)):=by
   congr 1
   show(((V.str sn.word::(sn.letters.map V.str++zs.map V.ref)).length:Nat):Int)=_
   rw[zrE,c3]
   omega
  have c':(!decide (V.int ((VC sn zs).length:Nat)=V.int (1+((sn.letters.length:Nat):Int)+((sn.parts.length:Nat):Int))))=true:=c
  rw[decide_eq_true z] at c'
  cases c'
 refine⟨_,rfl,p,sn.word,sn.letters.length,sn.parts.length,_,rfl,c1,Zh sn,c3,fun b hb=>?_⟩
 rw[c4]
 have g1:=Same.new hb (.tup (sn.letters.map V.str))
 refine⟨b,rfl,⟨_,vp.of zj⟩,zfw (xs:=sn.letters.map V.str) (fun _ v=>v=.bl true) (vp.of zj) (by rw[zrs];exact zrL (zY (by omega))) ?_ (zhm Lz) ?_⟩
 ·intro i x H' hx g
  rw[zru] at hx
  cases ho:sn.letters[i]? with
  | none=>rw[ho] at hx;cases hx
  | some y =>
   rw[ho] at hx
   cases hx
   refine⟨_,rfl,y,rfl,?_,g⟩
   rw[decide_eq_true (hle y (zrx ho))]
 intro ys H' p2 hr' g hp2
 have e:=JG (f:=fun _=>.bl true) hr'
 have e2:ys=(sn.letters.map fun _=>true).map V.bl:=by rw[e,zr4,zr4];rfl
 subst e2
 have g2:=Same.new hp2 (.lst ((sn.letters.map fun _=>true).map V.bl))
 have ea:(sn.letters.map fun _=>true).all id=true:=by rw[List.all_map,zrW];exact fun _ _=>rfl
 refine⟨p2,_,rfl,zX.of zj,_,rfl,?_⟩
 rw[ea]
 refine RK ?_
 have gg:=(g1.trans g).trans g2
 have c1':=gg _ _ c1
 refine⟨_,rfl,p,sn.word,sn.letters.length,sn.parts.length,_,rfl,c1',Zh sn,c3,fun b3 hb3=>?_⟩
 rw[c5]
 have g3:=Same.new hb3 (.tup (zs.map V.ref))
 refine⟨b3,rfl,⟨_,vp.of zj⟩,zfw (xs:=zs.map V.ref) (fun _ v=>v=.bl true) (vp.of zj) (by rw[zrs];exact zrL (zY (by omega))) ?_ ?_ ?_⟩
 ·intro i x H4 hx g4
  rw[zru] at hx
  cases ho:zs[i]? with
  | none=>rw[ho] at hx;cases hx
  | some y =>
   rw[ho] at hx
   cases hx
   obtain⟨sy,_,iy⟩:=QV c2 ho
   obtain⟨ws,d1,_⟩:=QX iy
   have d1':=((gg.trans g3).trans g4) _ _ d1
   exact⟨_,rfl,_,_,_,true,rfl,.tup d1',rfl,rfl,g4⟩
 ·rintro σ' H' Q1 Q2 hQ ⟨v,e,x,T',t,b',h1,h2,h3,h4⟩
  exact⟨v,e,x,T',t,b',h1,h2,h3,hQ _ _ h4⟩
 ·intro ys H4 p4 hr4 g4 hp4
  have e:=JG (f:=fun _=>.bl true) hr4
  have e2:ys=(zs.map fun _=>true).map V.bl:=by rw[e,zr4,zr4];rfl
  subst e2
  have ea:(zs.map fun _=>true).all id=true:=by rw[List.all_map,zrW];exact fun _ _=>rfl
  refine⟨p4,_,rfl,zX.of zj,?_⟩
  rw[ea]
  exact q _ (((gg.trans g3).trans g4).trans (Same.new hp4 _))
theorem zaj (T:Txt P w K mg a)(zdX:zA P w K mg base zU k a.Tw a.Tz X8 QZ)(XH:zA P w K mg base zU k a.Zy a.Zz v9 (YM K)) :
  zA P w K mg base zU (k+1) a.WL a.WM Yl zb4:=by
 refine T.Rx.F.ok wg (fun vs H Q E h=>?_) (fun cdv A outer s H vs Q E hr h=>?_)
 ·obtain⟨p,s,rfl,_⟩:=h
  rfl
 obtain⟨p,sn,rfl,isp,hin,hc,hd,q⟩:=h
 refine⟨_,(zf (zH 1 wg.nd (vY (za (pv 0) zc)))
   (zf (zH 2 wg.nd zq)
   (zf (zH 3 wg.nd zq)
   (zf (Qx PassesOwn.never (zL Jr (zO zK rfl T.wA yL (za (pv 1) zc)) zq (zQ _)) (zf (zeg (i:=2) wg.nd rfl (Or.inl rfl) zq zbN)
   (zf (zeg (i:=3) wg.nd rfl (Or.inl rfl) (zO zK rfl T.wA yL (za (pv 1) zc)) zbN)
   (zf (yC (PW.pt (Jl (zL Jr (pv 2) (XM (v:=.int 24) rfl T.zdR ⟨_,rfl⟩) (zQ _)) (N7 (zL Jr (pv 3) (XM (v:=.int 200) rfl T.zaP ⟨_,rfl⟩) (zQ _))))) (zm (zF Ri)) z8)
   (zf (yC (Uu (Ys (zO (Uz rfl) rfl T.zdS JD (za (tK (vX:=zx Wy) (js:=[]) rfl (by show Yt _ _ "part" [];exact lco (by decide +kernel)) rfl (wu (pv 1)) (by show ∀j∈([]:List Nat),j<4;decide) (fun cl C s₂ H₂ fp=>(zp zdX hr T.Kr (za (pv 0) zc)))) zc)) (fun _=>rfl))) (zm (zF Ri)) z8)
   (zm (zH 1 wg.nd (zp XH hr T.Xz (za (pv 1) zc)))))))))
   (zm (zF Ri)))))),?_⟩
 refine⟨_,rfl,by show 1<=sizeLine;decide,fun l0 hl0=>?_⟩
 have g0:=Same.new hl0 (.lst [.ref p])
 refine⟨fun m σ H'=>∃(ss:List Sn) (ps:List Addr) (l:Addr) (d t:Nat),m=cnt ss/\Same H H'/\H' l=some (.lst (ps.map V.ref))/\Paired (Ra H') ss ps/\(∀u∈ss,u.QK vV/\d+u.depth<=24)/\t+cnt ss<=200/\σ=[some (.ref p),some (.ref l),some (.int d),some (.int t)],
  ⟨_,[sn],[p],l0,0,0,rfl,g0,zj,.cons (isp.mono (yH.of g0)) .nil,?_,?_,rfl⟩,?_⟩
 ·intro u hu
  have e:u=sn:=by simpa using hu
  subst e
  exact⟨hin,by omega⟩
 ·show 0+(sn.count+0)<=200
  omega
 rintro m σ H' ⟨ss,ps,l,d,t,rfl,g,hl,hp,hi,ht,rfl⟩
 have lp:=Zg hp
 have le:(ps.map V.ref).length=ss.length:=by rw[zrs];exact lp.symm
 have cl:=zfx ss
 refine⟨_,rfl,l,_,rfl,.inl (zX.of hl),_,_,rfl,rfl,_,rfl,yu (fun c=>?_) (fun c=>?_)⟩
 ·have c':0<ss.length:=by have:=of_decide_eq_true c;rw[le] at this;omega
  have hd1:d+1<=24:=by
   have hm:ss[0]∈ss:=List.getElem_mem c'
   have:=(hi _ hm).2
   have:=Sn.Mi ss[0]
   omega
  refine⟨_,fun σ' H2 h=>h,?_⟩
  refine⟨_,rfl,(d:Int),1,rfl,rfl,?_⟩
  refine⟨_,rfl,_,rfl,l,_,rfl,.inl (zX.of hl),(t:Int),_,rfl,rfl,?_⟩
  refine⟨_,rfl,_,_,rfl,rfl,_,rfl,yu (fun c2=>?_) (fun _=>?_)⟩
  ·exfalso
   have:=of_decide_eq_true c2
   omega
  refine⟨_,rfl,_,_,rfl,rfl,_,rfl,yu (fun c2=>?_) (fun _=>?_)⟩
  ·exfalso
   have:=of_decide_eq_true c2
   rw[le] at this
   omega
  refine⟨_,rfl,l,rfl,⟨_,zX.of hl⟩,zfv (fun _ v=>v=.bl true) (zX.of hl) (by rw[le];exact zrL (zY (by omega))) ?_ (zhm zdd) ?_⟩
  ·intro i x H2 hx g2
   rw[zru] at hx
   cases ho:ps[i]? with
   | none=>rw[ho] at hx;cases hx
   | some y =>
    rw[ho] at hx
    cases hx
    obtain⟨sy,hsy,iy⟩:=QV hp ho
    exact⟨_,rfl,y,sy,rfl,iy.mono (yH.of g2),Sn.zc7 sy (hi sy (zrx hsy)).1,fun H3 g3=>⟨rfl,g2.trans g3⟩⟩
  intro ys H2 p2 hr' g2 hp2
  have e:=JG (f:=fun _=>.bl true) hr'
  have e2:ys=(ps.map fun _=>true).map V.bl:=by rw[e,zr4,zr4];rfl
  subst e2
  have g3:=Same.new hp2 (.lst ((ps.map fun _=>true).map V.bl))
  have ea:(ps.map fun _=>true).all id=true:=by rw[List.all_map,zrW];exact fun _ _=>rfl
  refine⟨p2,_,rfl,zX.of zj,_,rfl,?_⟩
  rw[ea]
  refine RK ?_
  have gg:=g2.trans g3
  refine⟨_,rfl,l,ss,ps,rfl,gg.seq (zX.of hl),Wu (fun _ _ z=>z.mono (yH.of gg)) hp,by omega,fun l' H4 ps' g4 hn hl' hp'=>?_⟩
  have cp:=Sq ss
  refine⟨cnt (ss.flatMap Sn.parts),by omega,ss.flatMap Sn.parts,ps',l',d+1,t+(ps.map V.ref).length,rfl,(g.trans gg).trans g4,hl',hp',?_,by omega,rfl⟩
  intro u hu
  obtain⟨s',hs',hu'⟩:=Mq.mp hu
  obtain⟨i1,i2⟩:=hi s' hs'
  have:=Sn.UG s' u hu'
  exact⟨Sn.zbd s' i1 u hu',by omega⟩
 ·exact q _ g
theorem Lf (T:Txt P w K mg a)(ze3:zA P w K mg base zU k a.Qe a.Qg VN (Mr K)):zA P w K mg base zU (k+1) a.Yz a.YB u9 (UJ K):=by
 refine T.Uj.F.ok MN (fun vs H Q E h=>?_) (fun cdv A outer s H vs Q E hr h=>?_)
 ·obtain⟨l,os,rfl,_⟩:=h
  rfl
 obtain⟨l,os,rfl,hq,ho,q⟩:=h
 refine⟨_,(zm (yC (Uu (Ys (zp ze3 hr T.zaf (za (pv 0) zc)) (fun _=>rfl))) (zm Uw) z8)),?_⟩
 refine⟨_,rfl,l,os,rfl,hq,zrO ho.le (by decide),fun H' g=>⟨_,rfl,?_⟩⟩
 rw[ziV ho]
 exact RK (q H' g)
theorem Rh (T:Txt P w K mg a)(zaR:zA P w K mg base zU k a.WL a.WM Yl zb4):zA P w K mg base zU (k+1) a.tU a.tV vC Ms:=by
 refine T.XC.F.ok Rg (fun vs H Q E h=>?_) (fun cdv A outer s H vs Q E hr h=>?_)
 ·obtain⟨p,s,rfl,_⟩:=h
  rfl
 obtain⟨p,sn,rfl,h1,h2,h3,h4,q⟩:=h
 refine⟨_,(zm (yC (Uu (Ys (zp zaR hr T.Rx (za (pv 0) zc)) (fun _=>rfl))) (zm Uw) z8)),?_⟩
 exact⟨_,rfl,p,sn,rfl,h1,h2,h3,h4,fun H' g=>⟨_,rfl,RK (q H' g)⟩⟩
theorem zcG (T:Txt P w K mg a)(XH:zA P w K mg base zU k a.Zy a.Zz v9 (YM K)):zA P w K mg base zU (k+1) a.TF a.TJ Wb RP:=by
 refine T.Ks.F.ok YT (fun vs H Q E h=>?_) (fun cdv A outer s H vs Q E hr h=>?_)
 ·obtain⟨p,s,rfl,_⟩:=h
  rfl
 obtain⟨p,sn,rfl,isp,hc,q⟩:=h
 refine⟨_,(zf (zH 1 YT.nd (vY zc))
   (zf (zH 2 YT.nd (vY (za (pv 0) zc)))
   (zf (Qx PassesOwn.never (zL Jr (zO zK rfl T.wA yL (za (pv 2) zc)) zq (zQ _)) (zf (z7 (ZQ PySem.F.plainAttrs_list PySem.F.slot_list_extend PySem.F.type_list_extend zbb (pv 1) (za (pv 2) zc)))
   (zm (zH 2 YT.nd (zp XH hr T.Xz (za (pv 2) zc))))))
   (zm (zF (pv 1)))))),?_⟩
 refine⟨by show 0<=sizeLine;decide,fun f hf=>?_⟩
 refine⟨_,rfl,by show 1<=sizeLine;decide,fun l0 hl0=>?_⟩
 have g0:=(Same.new hf (.lst [])).trans (Same.new hl0 (.lst [.ref p]))
 have nfl:f≠l0:=zy zj hl0
 refine⟨fun m σ H'=>∃(ts ss:List Sn) (qs ps:List Addr) (l:Addr),m=cnt ss/\Same H H'/\H' f=some (.lst (qs.map V.ref))/\H' l=some (.lst (ps.map V.ref))/\f≠l/\Paired (Ra H') ts qs/\Paired (Ra H') ss ps/\ts.length+cnt ss=sn.count /\
   (∀x,((∃t∈ts,x∈t.letters)\/∃u∈ss,x∈u.all)↔x∈sn.all)/\σ=[some (.ref p),some (.ref f),some (.ref l)],
  ⟨_,[],[sn],[],[p],l0,rfl,g0,by rw[zB nfl];exact zj,zj,nfl,.nil,.cons (isp.mono (yH.of g0)) .nil,?_,?_,rfl⟩,?_⟩
 ·show 0+(sn.count+0)=sn.count
  omega
 ·intro x
  simp
 rintro m σ H' ⟨ts,ss,qs,ps,l,rfl,g,hf',hl,nfl,hts,hss,hcn,hle,rfl⟩
 have lt:=Zg hts
 have lp:=Zg hss
 have cl:=zfx ss
 have le:(ps.map V.ref).length=ss.length:=by rw[zrs];exact lp.symm
 refine⟨_,rfl,l,_,rfl,.inl (zX.of hl),_,_,rfl,rfl,_,rfl,yu (fun c=>?_) (fun c=>?_)⟩
 ·have c':0<ss.length:=by have:=of_decide_eq_true c;rw[le] at this;omega
  refine⟨_,fun σ' H2 h=>h,?_⟩
  refine⟨_,rfl,.inl ⟨rfl,_,zX.of hf'⟩,_,rfl,f,l,_,_,rfl,rfl,hf',hl,by rw[zrs,zrs];exact zrL (zY (by omega)),?_⟩
  have t1:yH H' (upd H' f (.lst (qs.map V.ref++ps.map V.ref))):=yH.lst hf' _
  have g1:Same H (upd H' f (.lst (qs.map V.ref++ps.map V.ref))):=g.over hf _
  have hl1:(upd H' f (.lst (qs.map V.ref++ps.map V.ref))) l=some (.lst (ps.map V.ref)):=by rw[zB (Ne.symm nfl)];exact hl
  refine⟨_,rfl,l,ss,ps,rfl,zX.of hl1,Wu (fun _ _ z=>z.mono t1) hss,by omega,fun l' H3 ps' g3 hn hl' hp'=>?_⟩
  have cp:=Sq ss
  have t3:=t1.trans (yH.of g3)
  refine⟨cnt (ss.flatMap Sn.parts),by omega,ts++ss,ss.flatMap Sn.parts,qs++ps,ps',l',rfl,g1.trans g3,by rw[zrG];exact g3 _ _ zj,hl',zy zj hn,
   Mp (Wu (fun _ _ z=>z.mono t3) hts) (Wu (fun _ _ z=>z.mono t3) hss),hp',by rw[zrA];omega,fun x=>?_,rfl⟩
  rw[<-hle x]
  constructor
  ·rintro (⟨t,ht,hx⟩ | ⟨u,hu,hx⟩)
   ·rcases List.mem_append.mp ht with z | z
    ·exact .inl ⟨t,z,hx⟩
    ·exact .inr ⟨t,z,(Sn.zb2 t x).mpr (.inl hx)⟩
   ·obtain⟨s',hs',hu'⟩:=Mq.mp hu
    exact .inr ⟨s',hs',(Sn.zb2 s' x).mpr (.inr ⟨u,hu',hx⟩)⟩
  ·rintro (⟨t,ht,hx⟩ | ⟨u,hu,hx⟩)
   ·exact .inl ⟨t,List.mem_append_left _ ht,hx⟩
   ·rcases (Sn.zb2 u x).mp hx with z | ⟨v,hv,z⟩
    ·exact .inl ⟨u,zrJ _ hu,z⟩
    ·exact .inr ⟨v,Mq.mpr ⟨u,hu,hv⟩,z⟩
 ·have c':ss=[]:=by
   have:¬ 0<ss.length:=fun z=>c (decide_eq_true (by rw[le];omega))
   exact List.length_eq_zero_iff.mp (by omega)
  subst c'
  refine⟨_,rfl,q f H' ts qs g hf hf' hts ?_ fun x=>?_⟩
  ·have:cnt []=0:=rfl
   omega
  ·rw[<-hle x]
   constructor
   ·exact fun z=>.inl z
   ·rintro (z | ⟨u,hu,_⟩)
    ·exact z
    ·cases hu
theorem zaS (T:Txt P w K mg a)(zdY:zA P w K mg base zU k a.TF a.TJ Wb RP)(Ub:zA P w K mg base zU k a.Zw a.Zx uD Yu):zA P w K mg base zU (k+1) a.V1 a.V2 YW UL:=by
 refine T.Nr.F.ok Wz (fun vs H Q E h=>?_) (fun cdv A outer s H vs Q E hr h=>?_)
 ·obtain⟨p,s,rfl,_⟩:=h
  rfl
 obtain⟨p,sn,rfl,isp,hc,q⟩:=h
 refine⟨_,(zf (zH 1 Wz.nd (vY zc))
   (zf (uQ PassesOwn.never rfl (wu (zp zdY hr T.Ks (za (pv 0) zc))) (yU (i:=2) Wz.nd rfl (Or.inl rfl)) (zm (z7 (ZQ PySem.F.plainAttrs_list PySem.F.slot_list_extend PySem.F.type_list_extend JB (pv 1) (za (zp Ub hr T.V9 (za (pv 2) zc)) zc)))))
   (zm (zF (pv 1))))),?_⟩
 refine⟨by show 0<=sizeLine;decide,fun f hf=>?_⟩
 have g0:=Same.new hf (.lst [])
 refine⟨_,rfl,p,sn,rfl,isp.mono (yH.of g0),hc,fun l H1 ts ps g1 hn hl hts htl hle=>?_⟩
 have nfl:f≠l:=zy zj hn
 have lt:=Zg hts
 refine⟨l,rfl,⟨_,zX.of hl⟩,?_⟩
 refine Zd (xs:=ps.map V.ref) (fun i σ H'=>∃(f1:Option V),Same H H'/\H' f=some (.lst (((ts.take i).flatMap Sn.letters).map V.str))/\H' l=some (.lst (ps.map V.ref))/\Paired (Ra H') ts ps/\((ts.take i).flatMap Sn.letters).length<=i/\i<=ts.length/\σ=[some (.ref p),some (.ref f),f1])
  ⟨_,g0.trans g1,g1 _ _ zj,hl,hts,by simp,zrP _,rfl⟩ ?_ ?_ ?_
 ·rintro i σ H' _ ⟨f1,g,hf',hl',_⟩
  exact zX.of hl'
 ·rintro i x σ H' hx ⟨f1,g,hf',hl',hts',lq,li,rfl⟩
  rw[zru] at hx
  cases ho:ps[i]? with
  | none=>rw[ho] at hx;cases hx
  | some pp =>
   rw[ho] at hx
   cases hx
   obtain⟨sy,hsy,iy⟩:=QV hts' ho
   have hlt:=(zrv.mp hsy).1
   obtain⟨zs,c1,c2,c3,c4,c5⟩:=QX iy
   have l1:=Sn.JL sy
   refine⟨_,rfl,.inl ⟨rfl,_,zX.of hf'⟩,_,rfl,pp,sy.word,sy.letters.length,sy.parts.length,_,rfl,c1,Zh sy,c3,fun b hb=>?_⟩
   rw[c4]
   have hf2:(upd H' b (.tup (sy.letters.map V.str))) f=some (.lst (((ts.take i).flatMap Sn.letters).map V.str)):=by rw[zB (zy hf' hb)];exact hf'
   refine⟨f,b,_,sy.letters.map V.str,rfl,rfl,hf2,vp.of zj,?_,?_⟩
   ·rw[zrs,zrs]
    exact zrL (zY (by omega))
   ·have t1:yH H' (upd (upd H' b (.tup (sy.letters.map V.str))) f (.lst (((ts.take i).flatMap Sn.letters).map V.str++sy.letters.map V.str))):=(yH.new hb _).trans (yH.lst hf2 _)
    have e:(ts.take (i+1)).flatMap Sn.letters=(ts.take i).flatMap Sn.letters++sy.letters:=by rw[zZ hsy,List.flatMap_append,List.flatMap_singleton]
    refine⟨_,(g.trans (Same.new hb _)).over hf _,by rw[zj,e,zrG],?_,Wu (fun _ _ z=>z.mono t1) hts',by rw[e,zrA];omega,hlt,rfl⟩
    rw[zB (Ne.symm nfl),zB (zy hl' hb)]
    exact hl'
 ·rintro σ H' ⟨f1,g,hf',hl',hts',lq,li,rfl⟩
  rw[zrs,<-lt,zrV] at hf' lq
  refine⟨_,rfl,q f H' _ g hf hf' (fun x=>?_) (by omega)⟩
  rw[<-hle x,List.mem_flatMap]
theorem Nz (T:Txt P w K mg a):zA P w K mg base zU (k+1) a.uI a.uJ wW (VD K):=by
 refine T.Vo.F.ok PX (fun vs H Q E h=>?_) (fun cdv A outer s H vs Q E hr h=>?_)
 ·obtain⟨l,x,os,rfl,_⟩:=h
  rfl
 obtain⟨l,x,os,rfl,hO,hx,q⟩:=h
 refine⟨_,(zm (yC (zL QG (pv 1) (pv 0) (by with_unfolding_all rfl)) (zm Uw) z8)),?_⟩
 refine⟨_,rfl,_,rfl,l,_,rfl,.inl hO,rfl,W4 _,_,rfl,?_⟩
 have e:(if true=true then !inV (.str x) (os.map V.str) else inV (.str x) (os.map V.str))=false:=by
  rw[if_pos rfl,zdc,decide_eq_true hx];rfl
 rw[e]
 exact RK q
theorem Qn (T:Txt P w K mg a)(zcH:zA P w K mg base zU k a.V1 a.V2 YW UL)(Lg:zA P w K mg base zU k a.uI a.uJ wW (VD K)):zA P w K mg base zU (k+1) a.ZC a.ZD vW (UW K):=by
 refine T.Wo.F.ok Xo (fun vs H Q E h=>?_) (fun cdv A outer s H vs Q E hr h=>?_)
 ·obtain⟨l,p,os,s,rfl,_⟩:=h
  rfl
 obtain⟨l,p,os,sn,rfl,hO,isp,hc,hin,q⟩:=h
 refine⟨_,(zm (uQ PassesOwn.never rfl (wu (zp zcH hr T.Nr (za (pv 1) zc))) (yU (i:=2) Xo.nd rfl (Or.inl rfl)) (zm (z7 (zp Lg hr T.Vo (za (pv 0) (za (pv 2) zc))))))),?_⟩
 refine⟨_,rfl,p,sn,rfl,isp,hc,fun f H1 xs g1 hn hl hmem hxl=>?_⟩
 refine⟨f,rfl,⟨_,zX.of hl⟩,?_⟩
 refine Zd (xs:=xs.map V.str) (fun i σ H'=>∃f1:Option V,H'=H1/\σ=[some (.ref l),some (.ref p),f1]) ⟨_,rfl,rfl⟩ ?_ ?_ ?_
 ·rintro i σ H' _ ⟨f1,rfl,_⟩
  exact zX.of hl
 ·rintro i x σ H' hx ⟨f1,rfl,rfl⟩
  rw[zru] at hx
  cases ho:xs[i]? with
  | none=>rw[ho] at hx;cases hx
  | some y =>
   rw[ho] at hx
   cases hx
   have hy:y∈os:=(Sn.VB sn).mp hin y ((hmem y).mp (zrx ho))
   exact⟨_,rfl,_,rfl,l,y,os,rfl,g1.seq hO,hy,_,rfl,rfl⟩
 ·rintro σ H' ⟨f1,rfl,rfl⟩
  exact q _ g1
theorem KZ (T:Txt P w K mg a):zA P w K mg base zU (k+1) a.uc a.ud wX zde:=by
 refine T.T5.F.ok KQ (fun vs H Q E h=>?_) (fun cdv A outer s H vs Q E hr h=>?_)
 ·obtain⟨o,N,M,n,f,g,rfl,_⟩:=h
  rfl
 obtain⟨o,N,M,n,f,g,rfl,hN,hM,q⟩:=h
 refine⟨_,(zf (yC (zL xr (pv 0) yM (zQ _)) (zm (zF (zJ uw (pv 1) (pv 2)))) z8)
   (zf (yC (zL xr (pv 0) yM (zQ _)) (zm (zF (zJ Xj (pv 1) (pv 2)))) z8)
   (zf (yC (zL xr (pv 0) yM (zQ _)) (zm (zF (zJ Sh (pv 1) (pv 2)))) z8)
   (zm (zF (zJ Xj (zJ Sh (pv 3) (pv 1)) (pv 2))))))),?_⟩
 rcases zn0 o with e | e | e | e
 ·subst e
  exact⟨_,rfl,rfl,_,rfl,yu (fun _=>⟨_,rfl,_,rfl,N,M,rfl,rfl,q _ (ur hN hM)⟩) (fun c=>absurd (decide_eq_true rfl) c)⟩
 ·subst e
  refine⟨_,rfl,rfl,_,rfl,yu (fun c=>absurd c (ne_str (show Str.ofString "or" ≠ Str.ofString "and" by decide +kernel))) (fun _=>?_)⟩
  exact⟨_,rfl,rfl,_,rfl,yu (fun _=>⟨_,rfl,_,rfl,N,M,rfl,rfl,q _ (Wt hN hM)⟩) (fun c=>absurd (decide_eq_true rfl) c)⟩
 ·subst e
  refine⟨_,rfl,rfl,_,rfl,yu (fun c=>absurd c (ne_str (show Str.ofString "either" ≠ Str.ofString "and" by decide +kernel))) (fun _=>?_)⟩
  refine⟨_,rfl,rfl,_,rfl,yu (fun c=>absurd c (ne_str (show Str.ofString "either" ≠ Str.ofString "or" by decide +kernel))) (fun _=>?_)⟩
  exact⟨_,rfl,rfl,_,rfl,yu (fun _=>⟨_,rfl,_,rfl,N,M,rfl,rfl,q _ (Vz hN hM)⟩) (fun c=>absurd (decide_eq_true rfl) c)⟩
 ·subst e
  refine⟨_,rfl,rfl,_,rfl,yu (fun c=>absurd c (ne_str (show Str.ofString "if" ≠ Str.ofString "and" by decide +kernel))) (fun _=>?_)⟩
  refine⟨_,rfl,rfl,_,rfl,yu (fun c=>absurd c (ne_str (show Str.ofString "if" ≠ Str.ofString "or" by decide +kernel))) (fun _=>?_)⟩
  refine⟨_,rfl,rfl,_,rfl,yu (fun c=>absurd c (ne_str (show Str.ofString "if" ≠ Str.ofString "either" by decide +kernel))) (fun _=>?_)⟩
  refine⟨_,rfl,_,rfl,_,N,rfl,rfl,_,rfl,_,M,rfl,rfl,q _ (yE (Wt (Vz (XS n) hN) hM) fun b _=>?_)⟩
  show((true != f b)||g b)=(!f b||g b)
  cases f b<;>rfl
theorem zaT {d:Nat}(T:Txt P w K mg a)(z9:zA P w K mg base zU k a.wj a.wk xJ wR)(yx:zA P w K mg base zU k a.xV a.xW xG wJ)
  (uP:zA P w K mg base zU k a.Xc a.Xd Z0 Y7)(uh:zA P w K mg base zU k a.tO a.tQ v8 ZV)
  (ZL:zA P w K mg base zU k a.uc a.ud wX zde)
  (Qo:zA P w K mg base zU k a.Xx a.Xy Z2 (VF K d)):zA P w K mg base zU (k+1) a.Xx a.Xy Z2 (VF K (d+1)):=by
 refine T.Qm.F.ok Wc (fun vs H Q E h=>?_) (fun cdv A outer s H vs Q E hr h=>?_)
 ·obtain⟨p,l,sn,os,rfl,_⟩:=h
  rfl
 obtain⟨p,l,sn,os,rfl,isp,hO,hin,h8,hd,q⟩:=h
 refine⟨_,(zf (zH 2 Wc.nd (yj tH (pv 0) zq (fun _ _=>rfl)))
   (zf (zH 3 Wc.nd (zO zK rfl T.wA yL (za (pv 1) zc)))
   (zf (yC (zL xr (pv 2) yM (zQ _)) (zm (zF zq)) z8)
   (zf (yC (zL xr (pv 2) yM (zQ _)) (zm (zF (zp z9 hr T.vG (za (pv 3) zc)))) z8)
   (zf (yC (zL xr (pv 2) yM (zQ _)) (zm (zF (zp yx hr T.Zb (za (ZQ PySem.F.plainAttrs_list PySem.F.slot_list_index PySem.F.type_list_index Jz (pv 1) (za (yj tH (pv 0) zq (fun _ _=>rfl)) zc)) (za (pv 3) zc))))) z8)
   (zf (Uy (tt:=Vx) (i:=4) Wc.nd rfl (Or.inl rfl) (.inl rfl) (vX:=zx Qc) (js:=[1]) rfl (by show Yt _ _ "part" ["order"];exact lco (by decide +kernel)) rfl (RD (zp uh hr T.Ua (za (pv 0) zc))) (by show ∀j∈([1]:List Nat),j<5;decide) (fun cl C s₂ H₂ fp pins s' σ' H' Q I h=>wpAny_pure ⟨H',I,h⟩) (fun cl C s₂ H₂ fp=>(zp Qo hr T.Qm (za (pv 0) (za (pv 1) zc)))) rfl)
   (zf (yC (zL xr (pv 2) yM (zQ _)) (zm (zF (zJ Sh (zp z9 hr T.vG (za (pv 3) zc)) (yj yw (pv 4) zq (fun _ _=>rfl))))) z8)
   (zf (yC (zL xr (pv 2) yM (zQ _)) (zm (zF (zJ Xj (yj yw (pv 4) zq (fun _ _=>rfl)) (zp uP hr T.Vm (za (yj yw (pv 4) zq (fun _ _=>rfl)) (za (ZQ PySem.F.plainAttrs_list PySem.F.slot_list_index PySem.F.type_list_index Jz (pv 1) (za (yj tH (pv 0) zq (fun _ _=>rfl)) zc)) (za (pv 3) zc))))))) z8)
   (zf (yC (zL xr (pv 2) yM (zQ _)) (zm (zF (zJ uw (yj yw (pv 4) zq (fun _ _=>rfl)) (zp uP hr T.Vm (za (yj yw (pv 4) zq (fun _ _=>rfl)) (za (ZQ PySem.F.plainAttrs_list PySem.F.slot_list_index PySem.F.type_list_index Jz (pv 1) (za (yj tH (pv 0) zq (fun _ _=>rfl)) zc)) (za (pv 3) zc))))))) z8)
   (zm (zF (zp ZL hr T.T5 (za (pv 2) (za (yj yw (pv 4) zq (fun _ _=>rfl)) (za (yj yw (pv 4) zq (fun _ _=>rfl)) (za (zp z9 hr T.vG (za (pv 3) zc)) zc)))))))))))))))),?_⟩
 have hlen:(os.map V.str).length=os.length:=zrs _
 obtain⟨zs,c1,c2,c3,c4,c5⟩:=QX isp
 have lz:=Zg c2
 have lp2:=Sn.QW sn
 refine⟨_,rfl,p,_,0,_,rfl,rfl,vp.of c1,at0,?_⟩
 refine⟨_,rfl,l,_,rfl,.inl hO,?_⟩
 rw[hlen]
 have comp:∀{σ:St} {Q2:Addr->Hp->List V->Prop},σ.getD 1 none=some (.ref l)->(∀(b:Addr) (ys:List V) (H':Hp),Same H H'->H' b=none->ys.length=sn.parts.length->(∀(j:Nat) v,ys[j]?=some v->∃t N,sn.parts[j]?=some t/\v=.int (N:Nat)/\TabOf os t N)->Q2 b H' ys) ->
   ∀b0,H b0=none->∃W:Nat->Nat->List V->Hp->Prop,(∃m,W 0 m [] (upd H b0 (.tup (zs.map V.ref))))/\∀i m ys H,W i m ys H ->
    ((Itt K b0).stop i H/\∀p,H p=none->Q2 p H ys) \/
    ((Itt K b0).go i H/\ys.length<sizeLine/\∀x H',(Itt K b0).Qs i H x H'->Vx (Yg σ [1] (some x)) H' fun b H2 =>
     if b=true then Jt (VF K d) [] E0 (Qz (Jk 0) (Qz (Jk 1) zc1)) (Yg σ [1] (some x)) H2 fun v H3=>∃m',m'<m/\W (i+1) m' (ys++[v]) H3 else ∃m',m'<m/\W (i+1) m' ys H2):=by
  intro σ Q2 hσ hQ2 b0 hb0
  have g0:=Same.new hb0 (.tup (zs.map V.ref))
  refine ziW (fun j v=>∃t N,sn.parts[j]?=some t/\v=.int ((N:Nat):Int)/\TabOf os t N) (vp.of zj) (by rw[zrs];exact zrL (zY (by omega))) ?_ (zme (zeC d)) ?_
  ·intro i x H' hx g
   rw[zru] at hx
   cases ho:zs[i]? with
   | none=>rw[ho] at hx;cases hx
   | some y =>
    rw[ho] at hx
    cases hx
    obtain⟨t,ht,it⟩:=QV c2 ho
    have htm:=zrx ht
    have dp:=Sn.UG sn t htm
    refine⟨_,rfl,.ref l,?_,y,l,t,os,rfl,it.mono (yH.of (g0.trans g)),(g0.trans g).seq hO,Sn.zbd sn hin t htm,h8,by omega,fun N H3 g3 hN=>⟨⟨t,N,ht,rfl,hN⟩,g.trans g3⟩⟩
    show some (σ.getD 1 none)=_
    rw[hσ]
  ·intro ys H' pp hl hy g hpp
   exact hQ2 pp ys H' (g0.trans g) hpp (by rw[hl,zrs];exact lz.symm) hy
 cases sn with
 | c0 y =>
  cases y with
  | false=>exact⟨_,rfl,rfl,_,rfl,yu (fun _=>q 0 _ (Same.refl _) (vH _)) (fun c=>absurd (decide_eq_true rfl) c)⟩
  | true =>
   refine⟨_,rfl,rfl,_,rfl,yu (fun c=>absurd c (ne_str (show Str.ofString "yes" ≠ Str.ofString "no" by decide +kernel))) (fun _=>?_)⟩
   exact⟨_,rfl,rfl,_,rfl,yu (fun _=>⟨_,rfl,os.length,rfl,h8,q _ _ (Same.refl _) (XS _)⟩) (fun c=>absurd (decide_eq_true rfl) c)⟩
 | mk x =>
  refine⟨_,rfl,rfl,_,rfl,yu (fun c=>absurd c (ne_str (show Str.ofString "mark" ≠ Str.ofString "no" by decide +kernel))) (fun _=>?_)⟩
  refine⟨_,rfl,rfl,_,rfl,yu (fun c=>absurd c (ne_str (show Str.ofString "mark" ≠ Str.ofString "yes" by decide +kernel))) (fun _=>?_)⟩
  obtain⟨i1,i2,i3⟩:=Ss (show x∈os from hin)
  have isp':H p=some (.tup [.str "mark", .str x]):=isp
  exact⟨_,rfl,rfl,_,rfl,yu (fun _=>⟨_,rfl,.inl ⟨rfl,_,hO⟩,_,rfl,p,_,1,_,rfl,rfl,vp.of isp',at1,l,_,.str x,_,rfl,rfl,hO,rfl,W4 _,i1,_,rfl,ix os x,os.length,rfl,i2,h8,fun R hR=>q R _ (Same.refl _) hR⟩) (fun c=>absurd (decide_eq_true rfl) c)⟩
 | nt s1 =>
  refine⟨_,rfl,rfl,_,rfl,yu (fun c=>absurd c (ne_str (show Str.ofString "not" ≠ Str.ofString "no" by decide +kernel))) (fun _=>?_)⟩
  refine⟨_,rfl,rfl,_,rfl,yu (fun c=>absurd c (ne_str (show Str.ofString "not" ≠ Str.ofString "yes" by decide +kernel))) (fun _=>?_)⟩
  refine⟨_,rfl,rfl,_,rfl,yu (fun c=>absurd c (ne_str (show Str.ofString "not" ≠ Str.ofString "mark" by decide +kernel))) (fun _=>?_)⟩
  refine⟨_,rfl,p,_,_,_,_,rfl,c1,Zh (.nt s1),c3,fun b0 hb0=>?_⟩
  rw[c5]
  refine⟨b0,rfl,⟨_,vp.of zj⟩,comp rfl (fun b ys H0 g0 hb0' hyl hy=>?_) b0 hb0⟩
  have hb:=zj (H:=H0) (a:=b) (o:=.lst ys)
  have g:=g0.trans (Same.new hb0' (.lst ys))
  obtain⟨v,rfl⟩:=len1 hyl
  obtain⟨t,N,ht,rfl,hN⟩:=hy 0 v rfl
  cases ht
  refine⟨_,rfl,rfl,_,rfl,yu (fun _=>⟨_,rfl,os.length,rfl,h8,_,rfl,b,_,0,_,rfl,rfl,zX.of hb,at0,_,N,rfl,rfl,q _ _ g (yE (Vz (XS _) hN) fun z _=>?_)⟩) (fun c=>absurd (decide_eq_true rfl) c)⟩
  show(true != s1.val (Rb os z))=!s1.val (Rb os z)
  cases s1.val (Rb os z)<;>rfl
 | b2 o s1 s2 =>
  have w1:w2 o≠Str.ofString "no" := zmf o
  have w2':w2 o≠Str.ofString "yes" := zkV o
  have w3:w2 o≠Str.ofString "mark" := ziX o
  have w4:w2 o≠Str.ofString "not" := zkW o
  have w5:w2 o≠Str.ofString "some" := ziY o
  have w6:w2 o≠Str.ofString "each" := ziZ o
  refine⟨_,rfl,rfl,_,rfl,yu (fun c=>absurd c (ne_str w1)) (fun _=>?_)⟩
  refine⟨_,rfl,rfl,_,rfl,yu (fun c=>absurd c (ne_str w2')) (fun _=>?_)⟩
  refine⟨_,rfl,rfl,_,rfl,yu (fun c=>absurd c (ne_str w3)) (fun _=>?_)⟩
  refine⟨_,rfl,p,_,_,_,_,rfl,c1,Zh (.b2 o s1 s2),c3,fun b0 hb0=>?_⟩
  rw[c5]
  refine⟨b0,rfl,⟨_,vp.of zj⟩,comp rfl (fun b ys H0 g0 hb0' hyl hy=>?_) b0 hb0⟩
  have hb:=zj (H:=H0) (a:=b) (o:=.lst ys)
  have g:=g0.trans (Same.new hb0' (.lst ys))
  obtain⟨v,u,rfl⟩:=len2 hyl
  obtain⟨t,N,ht,rfl,hN⟩:=hy 0 v rfl
  obtain⟨t',M,ht',rfl,hM⟩:=hy 1 u rfl
  cases ht
  cases ht'
  refine⟨_,rfl,rfl,_,rfl,yu (fun c=>absurd c (ne_str w4)) (fun _=>?_)⟩
  refine⟨_,rfl,rfl,_,rfl,yu (fun c=>absurd c (ne_str w5)) (fun _=>?_)⟩
  refine⟨_,rfl,rfl,_,rfl,yu (fun c=>absurd c (ne_str w6)) (fun _=>?_)⟩
  exact⟨_,rfl,_,rfl,b,_,0,_,rfl,rfl,zX.of hb,at0,_,rfl,b,_,1,_,rfl,rfl,zX.of hb,at1,_,rfl,os.length,rfl,h8,o,N,M,os.length,_,_,rfl,hN,hM,fun R hR=>q R _ g hR⟩
 | q1 o x s1 =>
  obtain⟨hx,hs1⟩:=hin
  obtain⟨i1,i2,i3⟩:=Ss hx
  cases o with
  | true =>
   refine⟨_,rfl,rfl,_,rfl,yu (fun c=>absurd c (ne_str (show Str.ofString "some" ≠ Str.ofString "no" by decide +kernel))) (fun _=>?_)⟩
   refine⟨_,rfl,rfl,_,rfl,yu (fun c=>absurd c (ne_str (show Str.ofString "some" ≠ Str.ofString "yes" by decide +kernel))) (fun _=>?_)⟩
   refine⟨_,rfl,rfl,_,rfl,yu (fun c=>absurd c (ne_str (show Str.ofString "some" ≠ Str.ofString "mark" by decide +kernel))) (fun _=>?_)⟩
   refine⟨_,rfl,p,_,_,_,_,rfl,c1,Zh (.q1 true x s1),c3,fun b0 hb0=>?_⟩
   rw[c5]
   refine⟨b0,rfl,⟨_,vp.of zj⟩,comp rfl (fun b ys H0 g0 hb0' hyl hy=>?_) b0 hb0⟩
   have hb:=zj (H:=H0) (a:=b) (o:=.lst ys)
   have g:=g0.trans (Same.new hb0' (.lst ys))
   obtain⟨v,rfl⟩:=len1 hyl
   obtain⟨t,N,ht,rfl,hN⟩:=hy 0 v rfl
   cases ht
   have c1':=g _ _ c1
   refine⟨_,rfl,rfl,_,rfl,yu (fun c=>absurd c (ne_str (show Str.ofString "some" ≠ Str.ofString "not" by decide +kernel))) (fun _=>?_)⟩
   refine⟨_,rfl,rfl,_,rfl,yu (fun _=>?_) (fun c=>absurd (decide_eq_true rfl) c)⟩
   refine⟨_,rfl,b,_,0,_,rfl,rfl,zX.of hb,at0,_,rfl,b,_,0,_,rfl,rfl,zX.of hb,at0,_,rfl,.inl ⟨rfl,_,g.seq hO⟩,_,rfl,p,_,1,_,rfl,rfl,vp.of c1',at1,l,_,.str x,_,rfl,rfl,g.seq hO,rfl,W4 _,i1,_,rfl,N,ix os x,os.length,_,rfl,i2,h8,hN,fun R hR=>⟨N,R,rfl,rfl,q _ _ g (yE (Wt hN hR) fun z _=>?_)⟩⟩
   exact(zhq hs1 hx z).symm
  | false =>
   refine⟨_,rfl,rfl,_,rfl,yu (fun c=>absurd c (ne_str (show Str.ofString "each" ≠ Str.ofString "no" by decide +kernel))) (fun _=>?_)⟩
   refine⟨_,rfl,rfl,_,rfl,yu (fun c=>absurd c (ne_str (show Str.ofString "each" ≠ Str.ofString "yes" by decide +kernel))) (fun _=>?_)⟩
   refine⟨_,rfl,rfl,_,rfl,yu (fun c=>absurd c (ne_str (show Str.ofString "each" ≠ Str.ofString "mark" by decide +kernel))) (fun _=>?_)⟩
   refine⟨_,rfl,p,_,_,_,_,rfl,c1,Zh (.q1 false x s1),c3,fun b0 hb0=>?_⟩
   rw[c5]
   refine⟨b0,rfl,⟨_,vp.of zj⟩,comp rfl (fun b ys H0 g0 hb0' hyl hy=>?_) b0 hb0⟩
   have hb:=zj (H:=H0) (a:=b) (o:=.lst ys)
   have g:=g0.trans (Same.new hb0' (.lst ys))
   obtain⟨v,rfl⟩:=len1 hyl
   obtain⟨t,N,ht,rfl,hN⟩:=hy 0 v rfl
   cases ht
   have c1':=g _ _ c1
   refine⟨_,rfl,rfl,_,rfl,yu (fun c=>absurd c (ne_str (show Str.ofString "each" ≠ Str.ofString "not" by decide +kernel))) (fun _=>?_)⟩
   refine⟨_,rfl,rfl,_,rfl,yu (fun c=>absurd c (ne_str (show Str.ofString "each" ≠ Str.ofString "some" by decide +kernel))) (fun _=>?_)⟩
   refine⟨_,rfl,rfl,_,rfl,yu (fun _=>?_) (fun c=>absurd (decide_eq_true rfl) c)⟩
   refine⟨_,rfl,b,_,0,_,rfl,rfl,zX.of hb,at0,_,rfl,b,_,0,_,rfl,rfl,zX.of hb,at0,_,rfl,.inl ⟨rfl,_,g.seq hO⟩,_,rfl,p,_,1,_,rfl,rfl,vp.of c1',at1,l,_,.str x,_,rfl,rfl,g.seq hO,rfl,W4 _,i1,_,rfl,N,ix os x,os.length,_,rfl,i2,h8,hN,fun R hR=>⟨N,R,rfl,rfl,q _ _ g (yE (ur hN hR) fun z _=>?_)⟩⟩
   exact(zhr hs1 hx z).symm
theorem Kz (T:Txt P w K mg a)(z9:zA P w K mg base zU k a.wj a.wk xJ wR)(yx:zA P w K mg base zU k a.xV a.xW xG wJ)
  (uP:zA P w K mg base zU k a.Xc a.Xd Z0 Y7)(uh:zA P w K mg base zU k a.tO a.tQ v8 ZV)
  (ZL:zA P w K mg base zU k a.uc a.ud wX zde):∀d:Nat,zA P w K mg base zU (k+d) a.Xx a.Xy Z2 (VF K d)
 | 0=>by
  refine⟨fun vs H Q E h=>?_,fun A outer s H args us vs Q E _ _ _ _ h=>?_⟩
  ·obtain⟨p,l,sn,os,rfl,_⟩:=h
   rfl
  ·obtain⟨p,l,sn,os,_,_,_,_,_,hd,_⟩:=h
   have:=Sn.Mi sn
   omega
 | d+1=>zaT T (z9.mono (zr3 _ _)) (yx.mono (zr3 _ _)) (uP.mono (zr3 _ _)) (uh.mono (zr3 _ _)) (ZL.mono (zr3 _ _)) (Kz T z9 yx uP uh ZL d)
theorem ze4 (T:Txt P w K mg a)(yx:zA P w K mg base zU k a.xV a.xW xG wJ)(uP:zA P w K mg base zU k a.Xc a.Xd Z0 Y7):zA P w K mg base zU (k+1) a.uG a.uH vL Zo:=by
 refine T.uN.F.ok R9 (fun vs H Q E h=>?_) (fun cdv A outer s H vs Q E hr h=>?_)
 ·obtain⟨N,p,n,v,f,rfl,_⟩:=h
  rfl
 obtain⟨N,p,n,v,f,rfl,hp,hn,tb,q⟩:=h
 refine⟨_,(zf (zH 4 R9.nd (zJ uw (pv 0) (zp yx hr T.Zb (za (pv 1) (za (pv 3) zc)))))
   (zf (zH 5 R9.nd (Jm (zL xr (pv 2) zq (zQ _)) (pv 4) (zJ Sh (pv 0) (pv 4))))
   (zm (zF (zJ Xj (pv 5) (zp uP hr T.Vm (za (pv 5) (za (pv 1) (za (pv 3) zc))))))))),?_⟩
 refine⟨_,rfl,_,rfl,_,rfl,p,n,rfl,hp,hn,fun R tr=>?_⟩
 refine⟨N,R,rfl,rfl,?_⟩
 have o:=uU.ur tb tr
 refine⟨_,rfl,rfl,_,rfl,?_⟩
 cases v with
 | true =>
  refine yu (fun _=>?_) (fun c=>absurd (decide_eq_true rfl) c)
  refine⟨_,rfl,?_⟩
  refine⟨_,rfl,_,rfl,_,rfl,_,rfl,N&&&R,p,n,_,rfl,hp,hn,o,fun R2 t2=>?_⟩
  refine⟨_,_,rfl,rfl,q _ (yE (uU.Wt o t2) fun b hb=>?_)⟩
  show((f b&&b.testBit p)||(f (zE b p (!b.testBit p))&&(zE b p (!b.testBit p)).testBit p))=f (zE b p true)
  rw[zM,if_pos rfl]
  cases e:b.testBit p
  ·simp
  ·rw[<-e,yF.yD,e];simp
 | false =>
  refine yu (fun c=>absurd (of_decide_eq_true c) (fun z=>by injection z with z;revert z;decide)) (fun _=>?_)
  have z:=uU.Vz tb o
  refine⟨_,rfl,_,rfl,N,N&&&R,rfl,rfl,?_⟩
  refine⟨_,rfl,_,rfl,_,rfl,_,rfl,N ^^^ (N&&&R),p,n,_,rfl,hp,hn,z,fun R2 t2=>?_⟩
  refine⟨_,_,rfl,rfl,q _ (yE (uU.Wt z t2) fun b hb=>?_)⟩
  show((f b != (f b&&b.testBit p))||(f (zE b p (!b.testBit p)) != (f (zE b p (!b.testBit p))&&(zE b p (!b.testBit p)).testBit p)))=f (zE b p false)
  rw[zM,if_pos rfl]
  cases e:b.testBit p
  ·rw[<-e,yF.yD,e];simp
  ·simp
theorem zdZ (T:Txt P w K mg a)(uP:zA P w K mg base zU k a.Xc a.Xd Z0 Y7):zA P w K mg base zU (k+1) a.Xr a.Xu Z1 Pa:=by
 refine T.Ql.F.ok zdI (fun vs H Q E h=>?_) (fun cdv A outer s H vs Q E hr h=>?_)
 ·obtain⟨N,p,n,f,rfl,_⟩:=h
  rfl
 obtain⟨N,p,n,f,rfl,hp,hn,tb,q⟩:=h
 refine⟨_,(zm (zF (YK za5 (zp uP hr T.Vm (za (pv 0) (za (pv 1) (za (pv 2) zc)))) (pv 0) (zQ _)))),?_⟩
 refine⟨_,rfl,_,rfl,_,rfl,N,p,n,f,rfl,hp,hn,tb,fun R tr=>?_⟩
 refine⟨_,rfl,rfl,?_⟩
 refine q _ (fun e=>?_) (fun e=>?_)
 ·have e1:R=N:=by
   have z:V.int (R:Nat)=V.int (N:Nat):=of_decide_eq_true (by simpa using e)
   injection z with z
   omega
  subst e1
  refine yF.Free.zi7 fun b hb=>?_
  rw[<-yF.Zn tr hb,yF.Zn tb hb]
 ·refine Classical.byContradiction fun no=>?_
  have e1:R=N:=yF.Yj tr tb fun b hb=>by
   refine Classical.byContradiction fun ne=>no ⟨b,hb,fun z=>ne ?_⟩
   show f (zE b p (!b.testBit p))=f b
   cases e:b.testBit p
   ·rw[Bool.not_false,<-z,<-e,yF.yD]
   ·rw[Bool.not_true,z,<-e,yF.yD]
  subst e1
  rw[decide_eq_true rfl] at e
  cases e
theorem zak (T:Txt P w K mg a)(Yb:zA P w K mg base zU k a.Xr a.Xu Z1 Pa):zA P w K mg base zU (k+1) a.Yp a.Yq uV Jb:=by
 refine T.Rv.F.ok Xm (fun vs H Q E h=>?_) (fun cdv A outer s H vs Q E hr h=>?_)
 ·obtain⟨N,n,f,rfl,_⟩:=h
  rfl
 obtain⟨N,n,f,rfl,hn,tb,q⟩:=h
 refine⟨_,(zf (zH 2 Xm.nd zq)
   (zf (Qx PassesOwn.never (PW.pt (zkq (zL zfj (pv 2) (pv 1) (zQ _)) (ziq (Uu (Ys (zp Yb hr T.Ql (za (pv 0) (za (pv 2) (za (pv 1) zc)))) (fun _=>rfl)))))) (zm (zeg (i:=2) Xm.nd rfl (Or.inl rfl) zq zbN)))
   (zm (zF (pv 2))))),?_⟩
 refine⟨fun m σ H'=>∃p:Nat,m=n-p/\H'=H/\p<=n/\(∀i,i<p->yF.Free n f i)/\σ=[some (.int N),some (.int n),some (.int p)],⟨_,0,rfl,rfl,zrP _,fun i hi=>absurd hi (Nat.not_lt_zero _),rfl⟩,?_⟩
 rintro m σ H' ⟨p,rfl,rfl,hp,fr,rfl⟩
 refine⟨_,rfl,_,rfl,_,_,rfl,rfl,_,rfl,yu (fun c=>?_) (fun c=>?_)⟩
 ·have hpn:p<n:=by have:=of_decide_eq_true c;omega
  refine⟨_,rfl,_,rfl,_,rfl,N,p,n,f,rfl,hpn,hn,tb,fun b hf ht=>?_⟩
  cases b with
  | false =>
   refine⟨_,rfl,yu (fun c2=>?_) (fun c2=>absurd rfl c2)⟩
   refine⟨_,fun σ' H2 h=>h,?_⟩
   refine⟨_,rfl,_,_,rfl,rfl,n-(p+1),by omega,p+1,rfl,rfl,hpn,fun i hi=>?_,rfl⟩
   by_cases e:i=p
   ·subst e
    exact hf rfl
   ·exact fr i (by omega)
  | true =>
   refine⟨_,rfl,yu (fun c2=>absurd c2 zrw) (fun c2=>?_)⟩
   exact⟨_,rfl,q p hp fr fun _=>ht rfl⟩
 ·refine⟨_,rfl,q p hp fr fun h=>absurd (decide_eq_true (by omega)) c⟩
theorem Qp {d:Nat}(T:Txt P w K mg a)(Yr:zA P w K mg base zU k a.Yp a.Yq uV Jb)(yt:zA P w K mg base zU k a.uG a.uH vL Zo)
  (yJ:zA P w K mg base zU k a.yX a.yZ yI (vm a.zu d)):zA P w K mg base zU (k+1) a.yX a.yZ yI (vm a.zu (d+1)):=by
 refine T.xX.F.ok wG (fun vs H Q E h=>?_) (fun cdv A outer s H vs Q E hr h=>?_)
 ·obtain⟨b,os,rs,F,t,u,f,rfl,_⟩:=h
  rfl
 obtain⟨b,os,rs,F,t,u,f,rfl,hB,hlen,hu,hd,tb,fr,q⟩:=h
 refine⟨_,(zf (yC (zgN (zbk (Jv hr) (pv 1) (uR (pv 0) rfl))) (zf (zH 2 wG.nd (zO zK rfl T.wA yL (za (uR (pv 0) rfl) zc)))
   (zf (zH 3 wG.nd (zp Yr hr T.Rv (za (pv 1) (za (pv 2) zc))))
   (zf (zH 4 wG.nd (yd (pv 0) T.zR T.xX yJ hr (za (zp yt hr T.uN (za (pv 1) (za (pv 3) (za zq (za (pv 2) zc))))) zc)))
   (zf (zH 5 wG.nd (yd (pv 0) T.zR T.xX yJ hr (za (zp yt hr T.uN (za (pv 1) (za (pv 3) (za zq (za (pv 2) zc))))) zc)))
   (zf (zb7 (Jv hr) (uR (pv 0) rfl) (pv 1) (zO zK rfl T.wA yL (za (uR (pv 0) rfl) zc)) rfl)
   (zf (z7 (ZQ PySem.F.plainAttrs_list PySem.F.slot_list_append PySem.F.type_list_append tY (uR (pv 0) rfl) (za (uT (za (pv 3) (za (pv 4) (za (pv 5) zc)))) zc)))
   (zm (z7 (ZQ PySem.F.plainAttrs_list PySem.F.slot_list_append PySem.F.type_list_append tY (uR (pv 0) rfl) (za (pv 1) zc)))))))))) z8)
   (zm (zF (zfD (Jv hr) (uR (pv 0) rfl) (pv 1) (fun _ _=>rfl))))),?_⟩
 have hB0:=hB
 obtain⟨dx,ml,rl,tl,nd,rv,ts,kvs,h⟩:=hB
 have n8:os.length<=8:=h.ord.le
 have hml:(os.map V.str).length=os.length:=zrs _
 have pw:2^(d+1)=2^d+2^d:=by rw[Nat.pow_succ];omega
 have pd:1<=2^d:=Nat.one_le_two_pow
 have pn:2^os.length<=256:=uU.zgi n8
 refine⟨_,rfl,_,rfl,b,a.zu,dx,_,_,rfl,h.hb,T.zR,T.vJ,rfl,nd,_,rfl,KH.k (k:=.inl (t:Int)) h.hd,?_⟩
 by_cases hm:t∈ts
 ·obtain⟨j,hj,ej⟩:=zr9 hm
  have ej':ts[j]?=some t:=by rw[zrt hj,ej]
  have ev:=h.nums.get j t ej'
  have z:=KH.k (k:=.inl (t:Int)) h.hd
  rw[ev] at z
  rw[ev]
  refine⟨_,rfl,RK ?_⟩
  refine⟨_,rfl,b,a.zu,dx,_,_,rfl,h.hb,T.zR,T.vJ,rfl,_,rfl,nd,_,rfl,z,?_⟩
  refine q j rs H (fun x o e _=>e) (fun _ _ e=>e) hB0 (.refl _) (by rw[<-h.tabs.len];exact hj) (h.tabs.find h.bk ej' tb) (by omega) (fun j h1 h2=>by omega) (zr3 _ _)
 ·have ev:=h.nums.non t hm
  rw[ev]
  refine⟨_,rfl,zaC ?_⟩
  refine⟨_,rfl,b,a.zu,dx,_,_,rfl,h.hb,T.zR,T.vO,rfl,ml,_,rfl,.inl (zX.of h.hm),?_⟩
  rw[hml]
  refine⟨_,rfl,_,rfl,t,os.length,f,rfl,n8,tb,fun p hp0 frp dep=>?_⟩
  have hp:p<os.length:=by
   refine Nat.lt_of_le_of_ne hp0 fun e=>hm ?_
   subst e
   have cs:=yF.vK frp
   have two:=yF.len2 h.bk
   cases hf:f 0 with
   | false=>exact zrx (h.tabs.same (j:=0) (by omega) tb fun r=>by rw[cs _ (yF.u6 _ _),hf];rfl)
   | true=>exact zrx (h.tabs.same (j:=1) (by omega) tb fun r=>by rw[cs _ (yF.u6 _ _),hf];exact yF.Sx h.bk r)
  have hup:u<=p:=by
   refine Nat.le_of_not_lt fun hlt=>?_
   obtain⟨c,hc,hne⟩:=dep hp
   exact hne (by rw[fr p hlt c hc,fr p hlt c hc])
  have fre:∀(v:Bool) i,i<p+1->yF.Free os.length (fun c=>f (zE c p v)) i:=fun v i hi c hc v'=>by
   show f (zE (zE c i v') p v)=f (zE c p v)
   by_cases e:i=p
   ·subst e
    congr 1
    refine yF.Zm (zP (zP hc hp) hp) (zP hc hp) fun j _=>?_
    rw[zM,zM,zM]
    by_cases e:j=i
    ·rw[if_pos e,if_pos e]
    ·rw[if_neg e,if_neg e,if_neg e]
   ·rw[<-frp i (by omega) _ (zP (v:=v) hc hp) v']
    congr 1
    refine yF.Zm (zP (zP hc (by omega)) hp) (zP (zP hc hp) (by omega)) fun j _=>?_
    rw[zM,zM,zM,zM]
    by_cases e1:j=p
    ·rw[if_pos e1,if_pos e1,if_neg (by omega)]
    ·rw[if_neg e1,if_neg e1]
  refine⟨_,rfl,b,dx,_,rfl,h.hb,rfl,_,rfl,_,rfl,_,rfl,t,p,os.length,false,f,rfl,hp,n8,tb,fun R0 tr0=>?_⟩
  refine⟨b,os,rs,F,R0,p+1,_,rfl,hB0,by omega,hp,by omega,tr0,fre false,fun k0 rs1 H1 aw1 tu1 hB1 gr1 lt1 y1 ln1 lv1 hh1=>?_⟩
  have hB1':=hB1
  obtain⟨dx1,ml1,rl1,tl1,nd1,rv1,ts1,zqv,h1⟩:=hB1
  refine⟨_,rfl,b,dx1,_,rfl,h1.hb,rfl,_,rfl,_,rfl,_,rfl,t,p,os.length,true,f,rfl,hp,n8,tb,fun R1 tr1=>?_⟩
  refine⟨b,os,rs1,F,R1,p+1,_,rfl,hB1',by omega,hp,by omega,tr1,fre true,fun k1 NZ H2 aw2 tu2 hB2 gr2 lt2 y2 ln2 lv2 hh2=>?_⟩
  obtain⟨dx2,ml2,rl2,tl2,Qu,rv2,ts2,zlk,h2⟩:=hB2
  have lt1':k0<NZ.length:=zrB lt1 gr2.len
  have y1':∀r,yF.yes NZ k0 r=f (zE (yF.bits r os.length) p false):=fun r=>by rw[gr2.yes h1.bk lt1];exact y1 r
  have g02:=gr1.trans gr2
  have lrs:=g02.len
  have lvs:∀j,rs.length<=j->j<NZ.length->p<yF.Vt os.length NZ j:=fun j a1 a2=>by
   by_cases hj:j<rs1.length
   ·rw[gr2.Vt hj];exact lv1 j a1 hj
   ·exact lv2 j (by omega) a2
  have old:∀j,j<rs.length->¬∀r,yF.yes NZ j r=f (yF.bits r os.length):=fun j hj hy=>hm (zrx (h.tabs.same hj tb fun r=>by rw[<-g02.yes h.bk hj];exact hy r))
  obtain⟨B',yn⟩:=yF.zhx h2.bk hp lt1' lt2 y1' y2 frp (dep hp) old lvs
  have hn2:t∉ts2:=fun hm2=>by
   obtain⟨j,hj,ej⟩:=zr9 hm2
   have ej':ts2[j]?=some t:=by rw[zrt hj,ej]
   have hjr:j<NZ.length:=by rw[<-h2.tabs.len];exact hj
   have hy:=h2.tabs.find h2.bk ej' tb
   by_cases hjo:j<rs.length
   ·exact old j hjo hy
   ·obtain⟨c,hc,hne⟩:=dep hp
    have lv:=lvs j (by omega) hjr
    refine hne ?_
    have a1:=hy (yF.put (yF.KJ c) p false)
    have a2:=hy (yF.put (yF.KJ c) p true)
    rw[yF.Zi h2.bk hjr lv,yF.zdp hp,yF.Sy hc] at a1 a2
    exact a1.symm.trans a2
  have l2:=h2.len
  have s2:NZ.length<sizeLine:=zrB (show NZ.length<9000001 by omega) (by decide)
  refine⟨_,rfl,b,a.zu,dx2,_,_,rfl,h2.hb,T.zR,T.wL,rfl,rl2,_,rfl,.inl (zX.of h2.hr),?_⟩
  rw[l2]
  refine⟨_,rfl,b,a.zu,dx2,_,_,rfl,h2.hb,T.zR,T.vJ,rfl,_,rfl,Qu,_,rfl,zeD.k (k:=.inl (t:Int)) h2.hd (by have:=h2.nums.len;have:=h2.tabs.len;omega),?_⟩
  have nb:Qu≠b:=Us h2.hd h2.hb (by intro z;cases z)
  have nm:Qu≠ml2:=Us h2.hd h2.hm (by intro z;cases z)
  have nr:Qu≠rl2:=Us h2.hd h2.hr (by intro z;cases z)
  have nt:Qu≠tl2:=Us h2.hd h2.ht (by intro z;cases z)
  have br:b≠rl2:=Us h2.hb h2.hr (by intro z;cases z)
  have bt:b≠tl2:=Us h2.hb h2.ht (by intro z;cases z)
  generalize hO3:HO.dK (putK zlk (Sum.inl (t:Int)) (V.int (NZ.length:Nat)))=o3
  have b3:upd H2 Qu o3 b=some (.ins a.zu dx2 (Mu ml2 rl2 tl2 Qu)):=by rw[zB (Ne.symm nb)];exact h2.hb
  have r3:upd H2 Qu o3 rl2=some (.lst rv2):=by rw[zB (Ne.symm nr)];exact h2.hr
  refine⟨_,rfl,b,a.zu,dx2,_,_,rfl,b3,T.zR,T.wL,rfl,.inl ⟨rfl,_,zX.of r3⟩,?_⟩
  refine⟨_,rfl,_,rfl,_,rfl,by show 3<=sizeLine;decide,fun q4 hq4=>?_⟩
  generalize hO4:HO.tup [V.int (p:Nat),V.int (k0:Nat),V.int (k1:Nat)]=o4
  have r4:upd (upd H2 Qu o3) q4 o4 rl2=some (.lst rv2):=by rw[zB (zy r3 hq4)];exact r3
  refine⟨rl2,_,_,rfl,rfl,r4,by rw[l2];exact s2,?_⟩
  have b4:upd (upd H2 Qu o3) q4 o4 b=some (.ins a.zu dx2 (Mu ml2 rl2 tl2 Qu)):=by rw[zB (zy b3 hq4)];exact b3
  have t3:upd H2 Qu o3 tl2=some (.lst (ts2.map fun t=>V.int (t:Nat))):=by rw[zB (Ne.symm nt)];exact h2.ht
  have t4:upd (upd H2 Qu o3) q4 o4 tl2=some (.lst (ts2.map fun t=>V.int (t:Nat))):=by rw[zB (zy t3 hq4)];exact t3
  have m3:upd H2 Qu o3 ml2=some (.lst (os.map V.str)):=by rw[zB (Ne.symm nm)];exact h2.hm
  have m4:upd (upd H2 Qu o3) q4 o4 ml2=some (.lst (os.map V.str)):=by rw[zB (zy m3 hq4)];exact m3
  have n3:upd H2 Qu o3 Qu=some o3:=zj
  have n4:upd (upd H2 Qu o3) q4 o4 Qu=some o3:=by rw[zB (zy n3 hq4)];exact n3
  have qr:q4≠rl2:=Ne.symm (zy r3 hq4)
  have qt:q4≠tl2:=Ne.symm (zy t3 hq4)
  have q4':upd (upd H2 Qu o3) q4 o4 q4=some o4:=zj
  have tu4:yH H2 (upd (upd H2 Qu o3) q4 o4):=fun x xs e=>by
   have e3:upd H2 Qu o3 x=some (.tup xs):=by rw[zB (Us e h2.hd (by intro z;cases z))];exact e
   rw[zB (zy e3 hq4)];exact e3
  have aw4:∀x o,H2 x=some o->¬F x->upd (upd H2 Qu o3) q4 o4 x=some o:=fun x o e nf=>by
   have e3:upd H2 Qu o3 x=some o:=by rw[zB (fun z=>nf ((h2.ft x).mpr (.inr (.inr (.inr (.inr z))))))];exact e
   rw[zB (zy e3 hq4)];exact e3
  generalize upd (upd H2 Qu o3) q4 o4=H4 at b4 t4 m4 n4 r4 q4' tu4 aw4
  generalize hO5:HO.lst (rv2++[V.ref q4])=o5
  have b5:upd H4 rl2 o5 b=some (.ins a.zu dx2 (Mu ml2 rl2 tl2 Qu)):=by rw[zB br];exact b4
  have t5:upd H4 rl2 o5 tl2=some (.lst (ts2.map fun t=>V.int (t:Nat))):=by rw[zB (Ne.symm h2.rt)];exact t4
  refine⟨_,rfl,b,a.zu,dx2,_,_,rfl,b5,T.zR,T.XD,rfl,.inl ⟨rfl,_,zX.of t5⟩,_,rfl,tl2,_,_,rfl,rfl,t5,by rw[zrs,h2.tabs.len];exact s2,?_⟩
  generalize hO6:HO.lst (ts2.map (fun t=>V.int (t:Nat))++[V.int (t:Nat)])=o6
  have b6:upd (upd H4 rl2 o5) tl2 o6 b=some (.ins a.zu dx2 (Mu ml2 rl2 tl2 Qu)):=by rw[zB bt];exact b5
  have n6:upd (upd H4 rl2 o5) tl2 o6 Qu=some (.dK (putK zlk (Sum.inl (t:Int)) (V.int (NZ.length:Nat)))):=by rw[zB nt,zB nr,n4,hO3]
  have z:=KH.k (k:=.inl (t:Int)) n6
  rw[JM,if_pos rfl] at z
  refine⟨_,rfl,b,a.zu,dx2,_,_,rfl,b6,T.zR,T.vJ,rfl,_,rfl,Qu,_,rfl,z,?_⟩
  have tu6:yH H4 (upd (upd H4 rl2 o5) tl2 o6):=fun x xs e=>by
   rw[zB (Us e t4 (by intro z;cases z)),zB (Us e r4 (by intro z;cases z))];exact e
  have parts:=h2.more (H':=upd (upd H4 rl2 o5) tl2 o6) (i:=p) (lo:=k0) (hi:=k1) (t:=t) (q:=q4) (fun x xs e=>tu6 _ _ (tu4 _ _ e)) (b6.trans h2.hb.symm)
   (by rw[zB h2.mt,zB h2.mr,m4,h2.hm]) (by rw[zB h2.rt,zj,hO5]) (by rw[zj,hO6]) n6
   (by rw[zB qt,zB qr,q4',hO4]) B' hn2 (yE tb fun c hc=>by rw[yn,yF.Sy hc])
  refine q NZ.length _ _ (fun x o e nf=>?_) (fun x xs e=>tu6 _ _ (tu4 _ _ (tu2 _ _ (tu1 _ _ e)))) ⟨_,_,_,_,_,_,_,_,parts⟩ (g02.trans (yF.wN.snoc _ _)) (by simp) yn (by rw[zrA,zr0];omega) (fun j a1 a2=>?_) ?_
  ·have e2:=aw2 x o (aw1 x o e nf) nf
   rw[zB (fun z=>nf ((h2.ft x).mpr (.inr (.inr (.inr (.inl z)))))),zB (fun z=>nf ((h2.ft x).mpr (.inr (.inr (.inl z)))))]
   exact aw4 x o e2 nf
  ·rw[zrA,zr0] at a2
   by_cases hj:j<NZ.length
   ·rw[yF.U6 hj]
    have:=lvs j a1 hj
    omega
   ·have:j=NZ.length:=by omega
    subst this
    rw[yF.Ww B' (i:=p) (lo:=k0) (hi:=k1) (by simp)]
    exact hup
  ·rw[yF.zja]
   have:=yF.zjd (n:=os.length) hup
   omega
theorem XJ (T:Txt P w K mg a)(Yr:zA P w K mg base zU k a.Yp a.Yq uV Jb)(yt:zA P w K mg base zU k a.uG a.uH vL Zo) :
  ∀d:Nat,zA P w K mg base zU (k+d) a.yX a.yZ yI (vm a.zu d)
 | 0=>by
  refine⟨fun vs H Q E h=>?_,fun A outer s H args us vs Q E _ _ _ _ h=>?_⟩
  ·obtain⟨b,os,rs,F,t,u,f,rfl,_⟩:=h
   rfl
  ·obtain⟨b,os,rs,F,t,u,f,_,_,_,hu,hd,_⟩:=h
   omega
 | d+1=>Qp T (Yr.mono (zr3 _ _)) (yt.mono (zr3 _ _)) (XJ T Yr yt d)
theorem zal (T:Txt P w K mg a)(Qq:zA P w K mg base zU k a.tU a.tV vC Ms)(NK:zA P w K mg base zU k a.ZC a.ZD vW (UW K))
  (Qo:zA P w K mg base zU k a.Xx a.Xy Z2 (VF K 24))(yJ:zA P w K mg base zU k a.yX a.yZ yI (vm a.zu 9)) :
  zA P w K mg base zU (k+1) a.V3 a.V4 YX (JR a.zu):=by
 refine T.Y4.F.ok zaL (fun vs H Q E h=>?_) (fun cdv A outer s H vs Q E hr h=>?_)
 ·obtain⟨b,p,os,rs,F,sn,rfl,_⟩:=h
  rfl
 obtain⟨b,p,os,rs,F,sn,rfl,hB,hlen,isp,hin,hc,hd,q⟩:=h
 refine⟨_,(zf (z7 (zp Qq hr T.XC (za (pv 1) zc)))
   (zf (z7 (zp NK hr T.Wo (za (uR (pv 0) rfl) (za (pv 1) zc))))
   (zm (zF (yd (pv 0) T.zR T.xX yJ hr (za (zp Qo hr T.Qm (za (pv 1) (za (uR (pv 0) rfl) zc))) zc)))))),?_⟩
 have L:=yW a.zu
 have ho:=L.ord hB
 have hlt:sn.QK vV:=(Sn.VB sn).mpr fun x hx=>ho.mem x ((Sn.VB sn).mp hin x hx)
 refine⟨_,rfl,p,sn,rfl,isp,hlt,hc,hd,fun H1 g1=>?_⟩
 have hB1:=L.same hB g1
 obtain⟨dx,ml,rl,tl,nd,rv,ts,kvs,h1⟩:=hB1
 refine⟨_,rfl,b,a.zu,dx,_,_,rfl,h1.hb,T.zR,T.vO,rfl,_,rfl,ml,p,os,sn,rfl,zX.of h1.hm,isp.mono (yH.of g1),by omega,hin,fun H2 g2=>?_⟩
 have g12:=g1.trans g2
 have h2:=h1.frame (fun x o e _=>g2 x o e) (yH.of g2)
 refine⟨_,rfl,b,dx,_,rfl,h2.hb,rfl,_,rfl,_,rfl,b,a.zu,dx,_,_,rfl,h2.hb,T.zR,T.vO,rfl,p,ml,sn,os,rfl,isp.mono (yH.of g12),zX.of h2.hm,hin,ho.le,hd,fun N H3 g3 hN=>?_⟩
 have g13:=g12.trans g3
 have hB3:=L.same hB g13
 refine⟨b,os,rs,F,N,0,_,rfl,hB3,by show rs.length+512<=9000000;omega,zrP _,by have:=ho.le;omega,hN,fun i hi=>absurd hi (Nat.not_lt_zero _),fun j rs' H' aw tu hB' gr lt y ln _ hh=>?_⟩
 refine q j rs' H' (fun x o e nf=>aw x o (g13 _ _ e) nf) (fun x xs e=>tu _ _ (g13 _ _ e)) hB' gr ⟨lt,fun r=>?_⟩ (zrO hh (Nat.add_le_add_left (yF.zmt ho.le) _))
 rw[y]
 refine Sn.val_congr sn hin fun x hx=>?_
 show(yF.bits r os.length).testBit (ix os x)=r (ix os x)
 exact yF.Yv r (Ss hx).2.1
theorem zcI (T:Txt P w K mg a)(K1:zA P w K mg base zU k a.Yz a.YB u9 (UJ K))(z9:zA P w K mg base zU k a.wj a.wk xJ wR) :
  zA P w K mg base zU (k+1) a.Wi a.TQ Wd (RT (zW a.zu) K a.zu):=by
 refine T.Kv.F.ok Nb (fun vs H Q E h=>?_) (fun cdv A outer s H vs Q E hr h=>?_)
 ·obtain⟨b,dx,l,os,rfl,_⟩:=h
  rfl
 obtain⟨b,dx,l,os,rfl,hb,bd,hl,ho,q⟩:=h
 refine⟨_,(zf (z7 (zp K1 hr T.Uj (za (pv 1) zc)))
   (zf (zH 2 Nb.nd (zO zK rfl T.wA yL (za (pv 1) zc)))
   (zf (zbO (pv 0) (tX Vv rfl T.T7 Vy (za (pv 1) zc)) rfl)
   (zf (zbO (pv 0) (vY (za (uT (za (pv 2) (za zq (za zq zc)))) (za (uT (za (pv 2) (za zq (za zq zc)))) zc))) rfl)
   (zf (zbO (pv 0) (vY (za zq (za (zp z9 hr T.vG (za (pv 2) zc)) zc))) rfl)
   (zm (zbO (pv 0) (zi5 (zdl zq zq (zdl (zp z9 hr T.vG (za (pv 2) zc)) zq zi4)) rfl rfl (List.cons_ne_nil _ _) (Nat.le_of_ble_eq_true rfl)) rfl))))))),?_⟩
 have n8:=ho.le
 have hml:(os.map V.str).length=os.length:=zrs _
 refine⟨_,rfl,l,os,rfl,hl,ho,fun H1 g1=>?_⟩
 have hl1:=g1.seq hl
 refine⟨_,rfl,l,_,rfl,.inl hl1,?_⟩
 rw[hml]
 have b1:=g1 _ _ hb
 refine⟨_,rfl,l,_,rfl,.inl hl1,fun ml hm1=>?_⟩
 have bm:b≠ml:=zy b1 hm1
 have b2:upd H1 ml (.lst (os.map V.str)) b=some (.ins a.zu dx []):=by rw[zB bm];exact b1
 refine⟨_,rfl,b,a.zu,dx,_,rfl,b2,T.zR,T.vO,by decide,?_⟩
 have s2:∀x o,H x=some o->x≠b->upd (upd H1 ml (.lst (os.map V.str))) b (.ins a.zu dx (ZS "marks" (.ref ml) [])) x=some o:=fun x o e nb=>by
  rw[zB nb,zB (zy (g1 _ _ e) hm1)];exact g1 _ _ e
 have hm2:upd (upd H1 ml (.lst (os.map V.str))) b (.ins a.zu dx (ZS "marks" (.ref ml) [])) ml=some (.lst (os.map V.str)):=by rw[zB (Ne.symm bm)];exact zj
 have f2:∀x,upd (upd H1 ml (.lst (os.map V.str))) b (.ins a.zu dx (ZS "marks" (.ref ml) [])) x=none->H x=none:=fun x e=>by
  have nb:x≠b:=fun z=>by rw[z,zj] at e;cases e
  cases hx:H x with
  | none=>rfl
  | some o=>rw[s2 x o hx nb] at e;cases e
 have fm:H ml=none:=g1.free hm1
 have b2':upd (upd H1 ml (.lst (os.map V.str))) b (.ins a.zu dx (ZS "marks" (.ref ml) [])) b=some (.ins a.zu dx (ZS "marks" (.ref ml) [])):=zj
 generalize upd (upd H1 ml (.lst (os.map V.str))) b (.ins a.zu dx (ZS "marks" (.ref ml) []))=H2 at s2 hm2 f2 b2'
 refine⟨_,rfl,by show 3<=sizeLine;decide,fun p0 hp0=>?_⟩
 refine⟨_,rfl,by show 3<=sizeLine;decide,fun p1 hp1=>?_⟩
 refine⟨by show 2<=sizeLine;decide,fun rl hrl=>?_⟩
 have g2:=((Same.new hp0 (.tup [.int (os.length:Nat),.int 0,.int 0])).trans (Same.new hp1 (.tup [.int (os.length:Nat),.int 1,.int 1]))).trans (Same.new hrl (.lst [.ref p0,.ref p1]))
 have hp0':=((Same.new hp1 (.tup [.int (os.length:Nat),.int 1,.int 1])).trans (Same.new hrl (.lst [.ref p0,.ref p1]))) p0 (.tup [.int (os.length:Nat),.int 0,.int 0]) zj
 have hp1':=(Same.new hrl (.lst [.ref p0,.ref p1])) p1 (.tup [.int (os.length:Nat),.int 1,.int 1]) zj
 have hr3:upd (upd (upd H2 p0 (.tup [.int (os.length:Nat),.int 0,.int 0])) p1 (.tup [.int (os.length:Nat),.int 1,.int 1])) rl (.lst [.ref p0,.ref p1]) rl=some (.lst [.ref p0,.ref p1]):=zj
 have frl:H2 rl=none:=((Same.new hp0 _).trans (Same.new hp1 _)).free hrl
 have brl:b≠rl:=zy b2' frl
 have mr:ml≠rl:=zy hm2 frl
 have b0:b≠p0:=zy b2' hp0
 have b1':b≠p1:=zy b2' ((Same.new hp0 _).free hp1)
 generalize upd (upd (upd H2 p0 (.tup [.int (os.length:Nat),.int 0,.int 0])) p1 (.tup [.int (os.length:Nat),.int 1,.int 1])) rl (.lst [.ref p0,.ref p1])=H3 at g2 hp0' hp1' hr3
 refine⟨_,rfl,b,a.zu,dx,_,rfl,g2 _ _ b2',T.zR,T.wL,by show 1<1000;decide,?_⟩
 generalize hfs:ZS "rooms" (V.ref rl) (ZS "marks" (V.ref ml) [])=fs3
 have u3:∀x,x≠b->upd H3 b (.ins a.zu dx fs3) x=H3 x:=fun x nb=>zB nb
 have b3:upd H3 b (.ins a.zu dx fs3) b=some (.ins a.zu dx fs3):=zj
 generalize upd H3 b (.ins a.zu dx fs3)=H4 at u3 b3
 refine⟨_,rfl,os.length,rfl,n8,by show 2<=sizeLine;decide,fun tl htl=>?_⟩
 have btl:b≠tl:=zy b3 htl
 have g4:=Same.new htl (.lst [.int 0,.int ((2^2^os.length-1:Nat):Int)])
 have ht5:upd H4 tl (.lst [.int 0,.int ((2^2^os.length-1:Nat):Int)]) tl=some (.lst [.int 0,.int ((2^2^os.length-1:Nat):Int)]):=zj
 generalize upd H4 tl (.lst [.int 0,.int ((2^2^os.length-1:Nat):Int)])=H5 at g4 ht5
 refine⟨_,rfl,b,a.zu,dx,_,rfl,g4 _ _ b3,T.zR,T.XD,by rw[<-hfs];show 2<1000;decide,?_⟩
 generalize zmT:ZS "tables" (V.ref tl) fs3=fs4
 have u5:∀x,x≠b->upd H5 b (.ins a.zu dx fs4) x=H5 x:=fun x nb=>zB nb
 have b5:upd H5 b (.ins a.zu dx fs4) b=some (.ins a.zu dx fs4):=zj
 generalize upd H5 b (.ins a.zu dx fs4)=H6 at u5 b5
 refine fun nd hnd=>?_
 have bnd:b≠nd:=zy b5 hnd
 have g6:=Same.new hnd (.dK [])
 refine⟨_,rfl,os.length,rfl,n8,zj,[(Sum.inl 0,.int 0),(Sum.inl ((2^2^os.length-1:Nat):Int),.int 1)],rfl,(by show 2<=15;decide),?_⟩
 rw[zil]
 have g7:=Same.new hnd (.dK (Wv [] [(Sum.inl 0,.int 0),(Sum.inl ((2^2^os.length-1:Nat):Int),.int 1)]))
 have hn7:upd H6 nd (.dK (Wv [] [(Sum.inl 0,.int 0),(Sum.inl ((2^2^os.length-1:Nat):Int),.int 1)])) nd=some (.dK (Wv [] [(Sum.inl 0,.int 0),(Sum.inl ((2^2^os.length-1:Nat):Int),.int 1)])):=zj
 generalize upd H6 nd (.dK (Wv [] [(Sum.inl 0,.int 0),(Sum.inl ((2^2^os.length-1:Nat):Int),.int 1)]))=H7 at g7 hn7
 refine⟨_,rfl,b,a.zu,dx,_,rfl,g7 _ _ b5,T.zR,T.vJ,by rw[<-zmT,<-hfs];show 3<1000;decide,?_⟩
 have big:2^2^os.length-1≠0:=by
  have:2^1<=2^2^os.length:=zrY (by decide) Nat.one_le_two_pow
  omega
 have to7:∀x o,H3 x=some o->x≠b->upd H7 b (.ins a.zu dx (ZS "numbers" (.ref nd) fs4)) x=some o:=fun x o e nb=>by
  rw[zB nb]
  refine g7 _ _ ?_
  rw[u5 x nb]
  refine g4 _ _ ?_
  rw[u3 x nb]
  exact e
 have tl6:H6 tl=some (.lst [.int 0,.int ((2^2^os.length-1:Nat):Int)]):=by rw[u5 tl (Ne.symm btl)];exact ht5
 have efs:ZS "numbers" (.ref nd) fs4=Mu ml rl tl nd:=by rw[<-zmT,<-hfs];rfl
 have up:∀x o,H3 x=some o->x≠b->H4 x=some o:=fun x o e nb=>by rw[u3 x nb];exact e
 have mt:ml≠tl:=zy (up _ _ (g2 _ _ hm2) (Ne.symm bm)) htl
 have rt:rl≠tl:=zy (up _ _ hr3 (Ne.symm brl)) htl
 have fr4:∀x,H4 x=none->H x=none:=fun x e=>f2 x (by
  cases hx:H2 x with
  | none=>rfl
  | some o =>
   by_cases nb:x=b
   ·rw[nb,b3] at e;cases e
   ·rw[up x o (g2 _ _ hx) nb] at e;cases e)
 have fr6:∀x,H6 x=none->H x=none:=fun x e=>by
  have nb:x≠b:=fun z=>by rw[z,b5] at e;cases e
  rw[u5 x nb] at e
  exact fr4 x (g4.free e)
 have two:∀{j:Nat},j<2->j=0\/j=1:=fun h=>by omega
 have bk0:yF.Bk os.length [none,none]:=⟨rfl,rfl,fun k h1 h2=>by simp at h2;omega,fun i j x e _=>by
  have:=(zrv.mp e).1
  rcases two (by simpa using this) with z | z<;>subst z<;>cases e⟩
 refine q _ (fun x=>x=b\/x=ml\/x=rl\/x=tl\/x=nd) (fun x o e nb=>to7 x o (g2 _ _ (s2 x o e nb)) nb) ⟨dx,ml,rl,tl,nd,[.ref p0,.ref p1],[0,2^2^os.length-1],Wv [] [(Sum.inl 0,.int 0),(Sum.inl ((2^2^os.length-1:Nat):Int),.int 1)],?_⟩ (fun x hx=>?_)
 ·refine { hb:=by rw[zj,efs],hm:=to7 _ _ (g2 _ _ hm2) (Ne.symm bm),hr:=to7 _ _ hr3 (Ne.symm brl),ht:=by rw[zB (Ne.symm btl)];exact g7 _ _ tl6,hd:=by rw[zB (Ne.symm bnd)];exact hn7,mr:=mr,mt:=mt,rt:=rt,ord:=ho,bk:=bk0,len:=rfl,rm:=?_,tabs:=?_,nums:=?_,ft:=fun x=>Iff.rfl }
  ·intro j x e
   have:=(zrv.mp e).1
   rcases two (by simpa using this) with z | z<;>subst z<;>cases e
   ·exact⟨p0,rfl,to7 _ _ hp0' (Ne.symm b0)⟩
   ·exact⟨p1,rfl,to7 _ _ hp1' (Ne.symm b1')⟩
  ·refine⟨rfl,fun j t e=>?_⟩
   have:=(zrv.mp e).1
   rcases two (by simpa using this) with z | z<;>subst z<;>cases e
   ·exact yE (vH _) fun b _=>rfl
   ·exact yE (XS _) fun b _=>(yF.Sx bk0 _).symm
  ·have z0:Nums [] []:=⟨fun j t e=>by simp at e,fun t _=>rfl,zrI _⟩
   have z1:=z0.snoc (t:=0) (by simp)
   exact z1.snoc (t:=2^2^os.length-1) (fun hm=>by simp at hm;omega)
 ·rcases hx with z | z | z | z | z<;>subst z
  ·exact .inl rfl
  ·exact .inr (.inr fm)
  ·exact .inr (.inr (f2 _ frl))
  ·exact .inr (.inr (fr4 _ htl))
  ·exact .inr (.inr (fr6 _ hnd))
theorem T8 (T:Txt P w K mg a):zA P w K mg base zU (k+1) a.yg a.yh z6 (vA a.zu):=by
 refine T.yp.F.ok Tn (fun vs H Q E h=>?_) (fun cdv A outer s H vs Q E hr h=>?_)
 ·obtain⟨b,os,rs,F,j,rfl,_⟩:=h
  rfl
 obtain⟨b,os,rs,F,j,rfl,⟨dx,ml,rl,tl,nd,rv,ts,kvs,h⟩,hk,q⟩:=h
 refine⟨_,(zm (yC (PW.pt (Jl (zL zfj (pv 1) zq (zQ _)) (N7 (zL zjX (pv 1) (zO zK rfl T.wA yL (za (uR (pv 0) rfl) zc)) (zQ _))))) (zm Uw) z8)),?_⟩
 have hl:=h.len
 refine⟨_,rfl,_,_,rfl,rfl,_,rfl,yu (fun c=>absurd (of_decide_eq_true c) (by omega)) (fun _=>?_)⟩
 refine⟨_,rfl,_,rfl,b,a.zu,dx,_,_,rfl,h.hb,T.zR,T.wL,rfl,rl,_,rfl,.inl (zX.of h.hr),_,_,rfl,rfl,_,rfl,yu (fun c=>absurd (of_decide_eq_true c) (by omega)) (fun _=>?_)⟩
 exact q
theorem Lh (T:Txt P w K mg a):zA P w K mg base zU (k+1) a.tE a.tG vI (SJ a.zu):=by
 refine T.Ul.F.ok MP (fun vs H Q E h=>?_) (fun cdv A outer s H vs Q E hr h=>?_)
 ·obtain⟨b,os,rs,F,j,rfl,_⟩:=h
  rfl
 obtain⟨b,os,rs,F,j,rfl,⟨dx,ml,rl,tl,nd,rv,ts,kvs,h⟩,hk,q⟩:=h
 refine⟨_,(zm (zF (yj tH (yj yw (uR (pv 0) rfl) (pv 1) (fun _ _=>rfl)) zq (fun _ _=>rfl)))),?_⟩
 have ex:=zrt hk
 obtain⟨p,e1,e2⟩:=h.rm j _ ex
 refine⟨_,rfl,b,a.zu,dx,_,_,rfl,h.hb,T.zR,T.wL,rfl,_,rfl,rl,_,_,_,rfl,rfl,zX.of h.hr,vq e1,?_⟩
 refine⟨p,_,0,.int (yF.Vt os.length rs j:Nat),rfl,rfl,vp.of e2,?_,q⟩
 unfold yF.Vt
 rw[ex]
 cases rs[j] with
 | none=>rfl
 | some t=>rfl
theorem zaU (T:Txt P w K mg a):zA P w K mg base zU (k+1) a.ZF a.ZG uE (Q9 a.zu):=by
 refine T.ZK.F.ok zaM (fun vs H Q E h=>?_) (fun cdv A outer s H vs Q E hr h=>?_)
 ·obtain⟨b,os,rs,F,j,x,v,rfl,_⟩:=h
  rfl
 obtain⟨b,os,rs,F,j,x,v,rfl,⟨dx,ml,rl,tl,nd,rv,ts,kvs,h⟩,ex,q⟩:=h
 refine⟨_,(zm (zF (yj tH (yj yw (uR (pv 0) rfl) (pv 1) (fun _ _=>rfl)) (zJ xY zq (pv 2)) (fun _ _=>rfl)))),?_⟩
 obtain⟨p,e1,e2⟩:=h.rm j _ ex
 refine⟨_,rfl,b,a.zu,dx,_,_,rfl,h.hb,T.zR,T.wL,rfl,_,rfl,rl,_,_,_,rfl,rfl,zX.of h.hr,vq e1,?_⟩
 refine⟨_,rfl,_,_,rfl,rfl,p,_,_,.int (U8 j x v:Nat),rfl,rfl,vp.of e2,?_,q⟩
 cases v<;>cases x<;>rfl
theorem zam (T:Txt P w K mg a)(zT:zA P w K mg base zU k a.yg a.yh z6 (vA a.zu))(ZM:zA P w K mg base zU k a.ZF a.ZG uE (Q9 a.zu)) :
  zA P w K mg base zU (k+1) a.V5 a.V6 YZ (JX a.zu):=by
 refine T.Nu.F.ok Ym (fun vs H Q E h=>?_) (fun cdv A outer s H vs Q E hr h=>?_)
 ·obtain⟨b,os,rs,F,k0,rfl,_⟩:=h
  rfl
 obtain⟨b,os,rs,F,k0,rfl,hB,hk,q⟩:=h
 refine⟨_,(zf (z7 (yd (pv 0) T.zR T.yp zT hr (za (pv 1) zc)))
   (zf (zH 2 Ym.nd zdk)
   (zf (zH 3 Ym.nd (vY (za (pv 1) zc)))
   (zf (Qx PassesOwn.never (zL Jr (zO zK rfl T.wA yL (za (pv 3) zc)) zq (zQ _)) (zf (zH 4 Ym.nd (zkH PySem.F.plainAttrs_list PySem.F.slot_list_pop PySem.F.type_list_pop zkI (pv 3)))
   (zm (yC (zgN (zbk (Jv hr) (pv 4) (pv 2))) (zf (zb7 (Jv hr) (pv 2) (pv 4) Ri rfl)
   (zm (z7 (ZQ PySem.F.plainAttrs_list PySem.F.slot_list_extend PySem.F.type_list_extend zbb (pv 3) (za (vY (za (yd (pv 0) T.zR T.ZK ZM hr (za (pv 4) (za zq zc))) (za (yd (pv 0) T.zR T.ZK ZM hr (za (pv 4) (za zq zc))) zc))) zc))))) z8))))
   (zm (zF (zO (Pu rfl) rfl T.zh9 zgn (za (pv 2) zc)))))))),?_⟩
 have L:=yW a.zu
 have BK:=L.bk hB
 obtain⟨dx,ml,rl,tl,nd,rv,tbs,zll,h⟩:=hB
 have hB:zW a.zu H b os rs F:=⟨dx,ml,rl,tl,nd,rv,tbs,zll,h⟩
 refine⟨_,rfl,b,dx,_,rfl,h.hb,rfl,_,rfl,b,os,rs,F,k0,rfl,hB,hk,?_⟩
 refine fun f hf=>?_
 refine⟨_,rfl,by show 1<=sizeLine;decide,fun t ht=>?_⟩
 have nft:f≠t:=zy zj ht
 have g0:=(Same.new hf (.dK [])).trans (Same.new ht (.lst [.int k0]))
 have p33:2^os.length+1<=257:=Nat.succ_le_succ (zrY (n:=2) (j:=8) (by decide) (L.ord hB).le)
 refine⟨fun m σ H'=>∃(ks ts:List Nat) (kvs:List (Key×V)) (f4:Option V),m=3*(rs.length-ks.length)+ts.length/\yF.Dfs rs k0 ks ts/\Same H H'/\H' f=some (.dK kvs)/\kvs.map (·.1)=ks.map (fun(n:Nat)=>(Sum.inl (n:Int):Key))/\H' t=some (.lst (ts.map fun(n:Nat)=>V.int n)) /\
   σ=[some (.ref b),some (.int k0),some (.ref f),some (.ref t),f4],
  ⟨_,[],[k0],[],none,rfl,yF.Dfs.start rs k0,g0,by rw[zB nft];exact zj,rfl,zj,rfl⟩,?_⟩
 rintro m σ H' ⟨ks,ts,kvs,f4,rfl,D,g,hf',hkv,ht',rfl⟩
 have lks:ks.length<=257:=zrO (yF.zgm BK hk D.nd D.r1) p33
 have lkv:kvs.length=ks.length:=by have:=congrArg List.length hkv;rw[zrs,zrs] at this;exact this
 refine⟨_,rfl,t,_,rfl,.inl (zX.of ht'),_,_,rfl,rfl,_,rfl,yu (fun c=>?_) (fun c=>?_)⟩
 ·have c':0<ts.length:=by have:=of_decide_eq_true c;rw[zrs] at this;omega
  obtain⟨ts',x,rfl⟩:∃ts' x,ts=ts'++[x]:=⟨ts.dropLast,ts.getLast (List.ne_nil_of_length_pos c'),(List.dropLast_concat_getLast _).symm⟩
  refine⟨_,fun σ' H2 h=>h,?_⟩
  have e1:((ts'++[x]).map fun(n:Nat)=>V.int n)[((ts'++[x]).map fun(n:Nat)=>V.int n).length-1]?=some (.int (x:Nat)):=by
   simp
  have e2:((ts'++[x]).map fun(n:Nat)=>V.int n).dropLast=ts'.map fun(n:Nat)=>V.int n:=by simp
  refine⟨_,rfl,.inl ⟨rfl,_,zX.of ht'⟩,t,_,_,rfl,rfl,ht',e1,?_⟩
  rw[e2]
  have g1:Same H (upd H' t (.lst (ts'.map fun(n:Nat)=>V.int n))):=g.over ((Same.new hf _).free ht) _
  have hf1:(upd H' t (.lst (ts'.map fun(n:Nat)=>V.int n))) f=some (.dK kvs):=by rw[zB nft];exact hf'
  refine⟨_,rfl,_,rfl,f,_,rfl,KH.k (k:=.inl (x:Int)) hf1,?_⟩
  have hkm:(Sum.inl (x:Int):Key)∈kvs.map (·.1)↔x∈ks:=by
   rw[hkv,List.mem_map]
   exact⟨fun⟨j,hj,e⟩=>(Int.ofNat.inj (Sum.inl.inj e):j=x) ▸ hj,fun h=>⟨x,h,rfl⟩⟩
  have e3:(tL kvs (Sum.inl (x:Int):Key)).isSome=decide (x∈ks):=by rw[zdo];exact decide_eq_decide.mpr hkm
  rw[e3]
  refine⟨_,rfl,yu (fun z=>?_) (fun z=>?_)⟩
  ·have hx:x∉ks:=fun h=>by rw[decide_eq_true h] at z;cases z
   have bound:=D.room BK hk hx
   refine⟨_,rfl,_,rfl,f,_,rfl,zeD.k (k:=.inl (x:Int)) hf1 (by rw[lkv];exact zY (by omega)),?_⟩
   have hnone:tL kvs (Sum.inl (x:Int):Key)=none:=by rw[decide_eq_false hx] at e3;exact Option.isSome_eq_false_iff.mp e3 |> Option.isNone_iff_eq_none.mp
   rw[zdg _ hnone]
   have g2:Same H (upd (upd H' t (.lst (ts'.map fun(n:Nat)=>V.int n))) f (.dK (kvs++[(Sum.inl (x:Int),V.bl true)]))):=g1.over hf _
   have zoy:(kvs++[((Sum.inl (x:Int):Key),V.bl true)]).map (·.1)=(ks++[x]).map (fun(n:Nat)=>(Sum.inl (n:Int):Key)):=by rw[zrG,zrG,hkv];rfl
   have ht2:(upd (upd H' t (.lst (ts'.map fun(n:Nat)=>V.int n))) f (.dK (kvs++[(Sum.inl (x:Int),V.bl true)]))) t=some (.lst (ts'.map fun(n:Nat)=>V.int n)):=by rw[zB (Ne.symm nft)];exact zj
   have hf2:(upd (upd H' t (.lst (ts'.map fun(n:Nat)=>V.int n))) f (.dK (kvs++[(Sum.inl (x:Int),V.bl true)]))) f=some (.dK (kvs++[(Sum.inl (x:Int),V.bl true)])):=zj
   generalize upd (upd H' t (.lst (ts'.map fun(n:Nat)=>V.int n))) f (.dK (kvs++[(Sum.inl (x:Int),V.bl true)]))=H2 at g2 ht2 hf2
   have hxl:x<rs.length:=(D.r2 x (zrJ _ zrM)).lt BK hk
   have hB2:=L.same hB g2
   obtain⟨rm,ex⟩:∃rm,rs[x]?=some rm:=⟨_,zrt hxl⟩
   have b2:=g2 _ _ h.hb
   refine⟨_,rfl,.inl ⟨rfl,_,zX.of ht2⟩,?_⟩
   refine⟨_,rfl,b,dx,_,rfl,b2,rfl,_,rfl,b,os,rs,F,x,rm,false,rfl,hB2,ex,?_⟩
   refine⟨_,rfl,b,dx,_,rfl,b2,rfl,_,rfl,b,os,rs,F,x,rm,true,rfl,hB2,ex,?_⟩
   refine⟨by show 2<=sizeLine;decide,fun l6 hl6=>?_⟩
   have g6:=Same.new hl6 (.lst [.int (U8 x rm false:Nat),.int (U8 x rm true:Nat)])
   have D':yF.Dfs rs k0 (ks++[x]) (ts'++[U8 x rm false,U8 x rm true]):=by
    cases rm with
    | none =>
     refine D.add [x,x] hx (fun y hy=>?_) (fun i lo hi e=>by rw[ex] at e;cases e) (zrI _)
     have:y=x:=by simpa using hy
     rw[this]
     exact D.r2 x (zrJ _ zrM)
    | some tr =>
     obtain⟨i,lo,hi⟩:=tr
     exact D.node hx ex
   refine⟨t,l6,_,_,rfl,rfl,g6 _ _ ht2,zj,?_,?_⟩
   ·have:=D.len
    rw[zrA,zr0] at this
    rw[zrs]
    exact zrL (zY (show ts'.length+2<=1000 by omega))
   ·refine⟨_,?_,ks++[x],ts'++[U8 x rm false,U8 x rm true],_,_,rfl,D',(g2.trans g6).over ((Same.new hf _).free ht) _,?_,zoy,?_,rfl⟩
    ·rw[zrA,zrA,zrA,zr0]
     show 3*(rs.length-(ks.length+1))+(ts'.length+2)<_
     omega
    ·rw[zB nft];exact g6 _ _ hf2
    ·rw[zj,zrG];rfl
  ·have hx:x∈ks:=Decidable.byContradiction fun h=>z (by rw[decide_eq_false h];rfl)
   refine⟨_,?_,ks,ts',kvs,_,rfl,D.skip hx,g1,hf1,hkv,zj,rfl⟩
   rw[zrA,zr0]
   omega
 ·have ets:ts=[]:=by
   have:¬ 0<ts.length:=fun z=>c (decide_eq_true (by rw[zrs];omega))
   exact List.length_eq_zero_iff.mp (by omega)
  subst ets
  refine⟨_,rfl,f,kvs,ks.map fun(n:Nat)=>(n:Int),rfl,hf',by rw[hkv,zr4];rfl,by rw[zrs];omega,zmD D.nd,fun l ms hl pm up=>?_⟩
  exact q l _ ms (g.trans (Same.new hl _)) (g.free hl) zj (yF.Q8.of D.nd D.done pm up)
theorem ze5 (T:Txt P w K mg a)(zcJ:zA P w K mg base zU k a.V5 a.V6 YZ (JX a.zu)):zA P w K mg base zU (k+1) a.M6 a.M7 SX (JZ a.zu):=by
 refine T.Lb.F.ok zeW (fun vs H Q E h=>?_) (fun cdv A outer s H vs Q E hr h=>?_)
 ·obtain⟨b,os,rs,F,k0,rfl,_⟩:=h
  rfl
 obtain⟨b,os,rs,F,k0,rfl,hB,hk,q⟩:=h
 refine⟨_,(zm (zF (zO zK rfl T.wA yL (za (yd (pv 0) T.zR T.Nu zcJ hr (za (pv 1) zc)) zc)))),?_⟩
 have L:=yW a.zu
 obtain⟨dx,fs,zcK,hm⟩:=L.ins hB
 refine⟨_,rfl,b,dx,fs,rfl,zcK,hm _ (by decide +kernel),_,rfl,b,os,rs,F,k0,rfl,hB,hk,fun l H' ms g hl0 hl ib=>?_⟩
 refine⟨l,_,rfl,.inl (zX.of hl),?_⟩
 rw[zrs]
 exact q H' ms g ib
theorem Li (T:Txt P w K mg a):zA P w K mg base zU (k+1) a.xK a.xM yP (ZW a.zu):=by
 refine T.wC.F.ok M4 (fun vs H Q E h=>?_) (fun cdv A outer s H vs Q E hr h=>?_)
 ·obtain⟨b,os,rs,F,j,rfl,_⟩:=h
  rfl
 obtain⟨b,os,rs,F,j,rfl,⟨dx,ml,rl,tl,nd,rv,ts,kvs,h⟩,hk,q⟩:=h
 refine⟨_,(zm (zF (yj yw (uR (pv 0) rfl) (pv 1) (fun _ _=>rfl)))),?_⟩
 have ht:j<ts.length:=by rw[h.tabs.len];exact hk
 have ex:=zrt ht
 refine⟨_,rfl,b,a.zu,dx,_,_,rfl,h.hb,T.zR,T.XD,rfl,_,rfl,tl,_,_,.int (ts[j]:Nat),rfl,rfl,zX.of h.ht,vq (by rw[zru,ex];rfl),?_⟩
 exact q _ (h.tabs.tab j _ ex)
theorem zaV (T:Txt P w K mg a):zA P w K mg base zU (k+1) a.wH a.wI xR (vh (zW a.zu)):=by
 refine T.uO.F.ok zaK (fun vs H Q E h=>?_) (fun cdv A outer s H vs Q E hr h=>?_)
 ·obtain⟨b,os,rs,F,rfl,_⟩:=h
  rfl
 obtain⟨b,os,rs,F,rfl,⟨dx,ml,rl,tl,nd,rv,ts,kvs,h⟩,q⟩:=h
 refine⟨_,(zm (zF (tX Vv rfl T.T7 Vy (za (uR (pv 0) rfl) zc)))),?_⟩
 exact⟨_,rfl,b,a.zu,dx,_,_,rfl,h.hb,T.zR,T.vO,rfl,ml,_,rfl,.inl (zX.of h.hm),fun l hl=>q l _ (Same.new hl _) hl zj⟩
theorem ze6 (T:Txt P w K mg a):zA P w K mg base zU (k+1) a.Z5 a.Z6 Za ZX:=by
 refine T.Vn.F.ok zeU (fun vs H Q E h=>?_) (fun cdv A outer s H vs Q E hr h=>?_)
 ·obtain⟨N,M,n,f,g,rfl,_⟩:=h
  rfl
 obtain⟨N,M,n,f,g,rfl,tb,tg,q⟩:=h
 refine⟨_,(zm (zF (zJ Sh (pv 0) (zJ uw (pv 0) (pv 1))))),?_⟩
 refine⟨_,rfl,_,rfl,_,rfl,N,M,rfl,rfl,N,N&&&M,rfl,rfl,q _ (yE (uU.Vz tb (uU.ur tb tg)) fun b _=>?_)⟩
 show(f b != (f b&&g b))=(f b&&!g b)
 cases f b<;>cases g b<;>rfl
theorem zgA (T:Txt P w K mg a)(Yc:zA P w K mg base zU k a.Z5 a.Z6 Za ZX):zA P w K mg base zU (k+1) a.Nk a.Nm Tg Pb:=by
 refine T.zdQ.F.ok zgx (fun vs H Q E h=>?_) (fun cdv A outer s H vs Q E hr h=>?_)
 ·obtain⟨W,L,M,n,f,g,h,rfl,_⟩:=h
  rfl
 obtain⟨W,L,M,n,f,g,h,rfl,tf,tg,th,q⟩:=h
 refine⟨_,(zm (zF (zJ Xj (zJ uw (pv 2) (pv 0)) (zp Yc hr T.Vn (za (pv 1) (za (pv 0) zc)))))),?_⟩
 refine⟨_,rfl,_,rfl,M,W,rfl,rfl,_,rfl,_,rfl,L,W,n,g,f,rfl,tg,tf,fun R tr=>?_⟩
 refine⟨M&&&W,R,rfl,rfl,q _ (yE (uU.Wt (uU.ur th tf) tr) fun b _=>?_)⟩
 show((h b&&f b)||(g b&&!f b))=if f b then h b else g b
 cases f b<;>simp
theorem zaW {d:Nat}(T:Txt P w K mg a)(z9:zA P w K mg base zU k a.wj a.wk xJ wR)(yt:zA P w K mg base zU k a.uG a.uH vL Zo)
  (Yb:zA P w K mg base zU k a.Xr a.Xu Z1 Pa)(yx:zA P w K mg base zU k a.xV a.xW xG wJ)(NP:zA P w K mg base zU k a.Nk a.Nm Tg Pb)
  (Vr:zA P w K mg base zU k a.Vj a.Vk Xb (PK d)):zA P w K mg base zU (k+1) a.Vj a.Vk Xb (PK (d+1)):=by
 refine T.Vq.F.ok Xp (fun vs H Q E h=>?_) (fun cdv A outer s H vs Q E hr h=>?_)
 ·obtain⟨N,M,p,n,f,c,rfl,_⟩:=h
  rfl
 obtain⟨N,M,p,n,f,c,rfl,n8,hp,hd,tf,tc,ff,fc,q⟩:=h
 refine⟨_,(zf (yC (zL xr (zJ uw (pv 0) (pv 1)) zq (zQ _)) (zm (zF zq)) z8)
   (zf (yC (zL xr (zJ uw (pv 0) (pv 1)) (pv 1) (zQ _)) (zm (zF (zp z9 hr T.vG (za (pv 3) zc)))) z8)
   (zf (RB (i:=4) Xp.nd rfl (Or.inr rfl) (tK (vX:=zx Vf) (js:=[1,2,3]) rfl (by show Yt _ _ "value" ["care", "place", "marks"];exact lco (by decide +kernel)) rfl (RD (uT (za zq (za zq zc)))) (by show ∀j∈([1,2,3]:List Nat),j<8;decide) (fun cl C s₂ H₂ fp=>(zp yt hr T.uN (za (pv 1) (za (pv 2) (za (pv 0) (za (pv 3) zc))))))))
   (zf (yC (Uu (Ys (zp Yb hr T.Ql (za (pv 0) (za (pv 2) (za (pv 3) zc)))) (fun _=>rfl))) (zm (zF (zp Vr hr T.Vq (za (pv 0) (za (zJ Xj (yj yw (pv 4) zq (fun _ _=>rfl)) (yj yw (pv 4) zq (fun _ _=>rfl))) (za (zJ xY (pv 2) zq) (za (pv 3) zc))))))) z8)
   (zf (RB (i:=5) Xp.nd rfl (Or.inr rfl) (tK (vX:=zx Vf) (js:=[0,2,3]) rfl (by show Yt _ _ "value" ["table", "place", "marks"];exact lco (by decide +kernel)) rfl (RD (uT (za zq (za zq zc)))) (by show ∀j∈([0,2,3]:List Nat),j<8;decide) (fun cl C s₂ H₂ fp=>(zp yt hr T.uN (za (pv 1) (za (pv 2) (za (pv 0) (za (pv 3) zc))))))))
   (zf (uQ PassesOwn.never rfl (RD (uT (za zq (za zq zc)))) (yU (i:=6) Xp.nd rfl (Or.inl rfl)) (zm (yC (zL xr (yj yw (pv 4) (zJ Jp zq (pv 6)) (fun _ _=>rfl)) zq (zQ _)) (zm (zF (zp Vr hr T.Vq (za (yj yw (pv 5) (pv 6) (fun _ _=>rfl)) (za (yj yw (pv 4) (pv 6) (fun _ _=>rfl)) (za (zJ xY (pv 2) zq) (za (pv 3) zc))))))) z8)))
   (zf (Uy (tt:=Vx) (i:=7) Xp.nd rfl (Or.inl rfl) (.inl rfl) (vX:=zx Vf) (js:=[3,5,4,2]) rfl (by show Yt _ _ "value" ["marks", "sides", "cares", "place"];exact lco (by decide +kernel)) rfl (RD (uT (za zq (za zq zc)))) (by show ∀j∈([3,5,4,2]:List Nat),j<8;decide) (fun cl C s₂ H₂ fp pins s' σ' H' Q I h=>wpAny_pure ⟨H',I,h⟩) (fun cl C s₂ H₂ fp=>(zp Vr hr T.Vq (za (yj (zdb (K:=K) rfl) (pv 2) (pv 0) (fun _ _=>rfl)) (za (yj (zdb (K:=K) rfl) (pv 3) (pv 0) (fun _ _=>rfl)) (za (zJ xY (pv 4) zq) (za (pv 1) zc)))))) rfl)
   (zm (zF (zp NP hr T.zdQ (za (zp yx hr T.Zb (za (pv 2) (za (pv 3) zc))) (za (yj yw (pv 7) zq (fun _ _=>rfl)) (za (yj yw (pv 7) zq (fun _ _=>rfl)) zc))))))))))))),?_⟩
 have zlm:=ur tf tc
 have ei:∀{i j:Nat},V.int (i:Int)=V.int (j:Int)->i=j:=fun h=>by injection h with h;exact Int.ofNat.inj h
 refine⟨_,rfl,_,rfl,N,M,rfl,rfl,rfl,_,rfl,yu (fun e=>?_) (fun e1=>?_)⟩
 ·exact q 0 _ H (Same.refl _) (vH n)
 have n0:N&&&M≠0:=fun z=>e1 (decide_eq_true (by show V.int ((N&&&M:Nat):Int)=V.int 0;rw[z];rfl))
 refine⟨_,rfl,_,rfl,N,M,rfl,rfl,_,rfl,rfl,_,rfl,yu (fun e=>?_) (fun e2=>?_)⟩
 ·exact⟨_,rfl,n,rfl,n8,q _ _ H (Same.refl _) (XS n)⟩
 have nM:N&&&M≠M:=fun z=>e2 (decide_eq_true (by show V.int ((N&&&M:Nat):Int)=V.int (M:Nat);rw[z]))
 have hpn:p<n:=by
  refine Nat.lt_of_le_of_ne hp fun z=>?_
  subst z
  have cf:=yF.vK ff
  have cc:=yF.vK fc
  cases h1:c 0 with
  | false=>exact n0 (yF.Yj zlm (vH p) fun b hb=>by rw[cc b hb,h1,Bool.and_false])
  | true =>
   cases h2:f 0 with
   | false=>exact n0 (yF.Yj zlm (vH p) fun b hb=>by rw[cf b hb,h2,Bool.false_and])
   | true=>exact nM (yF.Yj zlm tc fun b hb=>by rw[cf b hb,h2,Bool.true_and])
 have f8:∀v,∀i,i<p+1->yF.Free n (fun b=>f (zE b p v)) i:=fun v=>Y9 hpn ff
 have c8:∀v,∀i,i<p+1->yF.Free n (fun b=>c (zE b p v)) i:=fun v=>Y9 hpn fc
 refine⟨by show 2<=sizeLine;decide,fun tp htp=>⟨tp,rfl,⟨_,vp.of zj⟩,?_⟩⟩
 have g1:=Same.new htp (.tup [.int 0,.int 1])
 refine zeT (fun v R=>zN n R (fun b=>c (zE b p v))) (vp.of zj) (fun v H' Q0 g hQ=>⟨_,rfl,_,rfl,_,rfl,_,rfl,M,p,n,v,c,rfl,hpn,n8,tc,fun R tR=>hQ R tR _ (Same.refl _)⟩) (fun H2 cl C0 C1 g2 t0 t1 hcl=>?_)
 have g3:=(g1.trans g2).trans (Same.new hcl (.lst [.int (C0:Nat),.int (C1:Nat)]))
 have h3:upd H2 cl (.lst [.int (C0:Nat),.int (C1:Nat)]) cl=some _:=zj
 generalize upd H2 cl _=H3 at g3 h3 ⊢
 refine⟨_,rfl,_,rfl,_,rfl,N,p,n,f,rfl,hpn,n8,tf,fun hg hg0 hg1=>?_⟩
 cases hg with
 | false =>
  have fp:=hg0 rfl
  refine⟨_,rfl,zaC ⟨_,rfl,_,rfl,cl,_,_,_,rfl,rfl,zX.of h3,at0,_,rfl,cl,_,_,_,rfl,rfl,zX.of h3,at1,C0,C1,rfl,rfl,_,rfl,_,_,rfl,rfl,_,rfl,N,C0|||C1,p+1,n,f,_,rfl,n8,by omega,by omega,tf,Wt t0 t1,fun i hi=>?_,fun i hi=>zjl (c8 _ i hi) (c8 _ i hi),fun R g H' gg tg=>q R g H' (g3.trans gg) tg⟩⟩
  by_cases z:i=p
  ·rw[z];exact fp
  ·exact ff i (by omega)
 | true =>
 refine⟨_,rfl,RK ?_⟩
 refine⟨by show 2<=sizeLine;decide,fun ts hts=>⟨ts,rfl,⟨_,vp.of zj⟩,?_⟩⟩
 have g4:=Same.new hts (.tup [.int 0,.int 1])
 refine zeT (fun v R=>zN n R (fun b=>f (zE b p v))) (vp.of zj) (fun v H' Q0 g hQ=>⟨_,rfl,_,rfl,_,rfl,_,rfl,N,p,n,v,f,rfl,hpn,n8,tf,fun R tR=>hQ R tR _ (Same.refl _)⟩) (fun H5 sl S0 S1 g5 s0 s1 hsl=>?_)
 have g6:=(g4.trans g5).trans (Same.new hsl (.lst [.int (S0:Nat),.int (S1:Nat)]))
 have h6:upd H5 sl (.lst [.int (S0:Nat),.int (S1:Nat)]) sl=some _:=zj
 generalize upd H5 sl _=H6 at g6 h6 ⊢
 have care:∀v:Bool,∃R:Nat,([.int (C0:Nat),.int (C1:Nat)]:List V)[v.toNat]?=some (.int (R:Nat))/\zN n R (fun b=>c (zE b p v)):=fun v=>by
  cases v
  ·exact⟨C0,rfl,t0⟩
  ·exact⟨C1,rfl,t1⟩
 have side:∀v:Bool,∃R:Nat,([.int (S0:Nat),.int (S1:Nat)]:List V)[v.toNat]?=some (.int (R:Nat))/\zN n R (fun b=>f (zE b p v)):=fun v=>by
  cases v
  ·exact⟨S0,rfl,s0⟩
  ·exact⟨S1,rfl,s1⟩
 refine⟨by show 2<=sizeLine;decide,fun tq htq=>⟨tq,rfl,⟨_,vp.of zj⟩,?_⟩⟩
 have g7:=g6.trans (Same.new htq (.tup [.int 0,.int 1]))
 have k7:=(Same.new htq (.tup [.int 0,.int 1]))
 have h7:upd H6 tq (.tup [.int 0,.int 1]) tq=some _:=zj
 have hs7:=k7 _ _ h6
 generalize upd H6 tq _=H7 at g7 k7 h7 hs7 ⊢
 have hc7:=g7 _ _ h3
 refine zir (xs:=[.int 0,.int 1]) (fun m σ H'=>Same H7 H'/\∃f6 f7:Option V,σ=[some (.int (N:Nat)),some (.int (M:Nat)),some (.int (p:Nat)),some (.int (n:Nat)),some (.ref cl),some (.ref sl),f6,f7]) ⟨Same.refl _,_,_,rfl⟩ ?_ ?_ ?_
 ·rintro m σ H' _ ⟨gg,_⟩
  exact vp.of (gg _ _ h7)
 ·rintro m x σ H' hx ⟨gg,f6,f7,rfl⟩
  obtain⟨v,hv,rfl⟩:=zmE hx
  obtain⟨RN,hRN,_⟩:=care (!v)
  obtain⟨RC,hRC,tRC⟩:=care v
  obtain⟨RS,hRS,tRS⟩:=side v
  have en:atI ([.int (C0:Nat),.int (C1:Nat)]:List V) (1-((v.toNat:Nat):Int))=some (.int (RN:Nat)):=by
   have:(1:Int)-((v.toNat:Nat):Int)=(((!v).toNat:Nat):Int):=by cases v<;>rfl
   rw[this]
   exact vq hRN
  refine⟨_,rfl,_,rfl,_,_,rfl,rfl,cl,_,_,_,rfl,rfl,zX.of (gg _ _ hc7),en,rfl,_,rfl,yu (fun e=>?_) (fun e=>⟨gg,_,_,rfl⟩)⟩
  exact⟨_,rfl,_,rfl,sl,_,_,_,rfl,rfl,zX.of (gg _ _ hs7),vq hRS,_,rfl,_,rfl,cl,_,_,_,rfl,rfl,zX.of (gg _ _ hc7),vq hRC,_,rfl,_,_,rfl,rfl,_,rfl,RS,RC,p+1,n,_,_,rfl,n8,by omega,by omega,tRS,tRC,f8 v,c8 v,fun R g H2 gg2 tg=>q R g H2 (g3.trans (g7.trans (gg.trans gg2))) tg⟩
 rintro σ H' ⟨gg,f6,f7,rfl⟩
 refine⟨by show 2<=sizeLine;decide,fun tr htr=>⟨tr,rfl,⟨_,vp.of zj⟩,?_⟩⟩
 have g8:=gg.trans (Same.new htr (.tup [.int 0,.int 1]))
 refine zeT (fun v R=>∃g,zN n R g) (vp.of zj) (fun v H9 Q0 g hQ=>?_) (fun H9 ml M0 M1 g9 m0 m1 hml=>?_)
 ·obtain⟨RC,hRC,tRC⟩:=care v
  obtain⟨RS,hRS,tRS⟩:=side v
  have gA:=g8.trans g
  exact⟨_,rfl,_,rfl,sl,_,_,_,rfl,rfl,zX.of (gA _ _ hs7),vq hRS,_,rfl,_,rfl,cl,_,_,_,rfl,rfl,zX.of (gA _ _ hc7),vq hRC,_,rfl,_,_,rfl,rfl,_,rfl,RS,RC,p+1,n,_,_,rfl,n8,by omega,by omega,tRS,tRC,f8 v,c8 v,fun R g' H3 g3 tg=>hQ R ⟨g',tg⟩ _ g3⟩
 obtain⟨q0,m0⟩:=m0
 obtain⟨q1,m1⟩:=m1
 refine⟨_,rfl,_,rfl,p,n,rfl,hpn,n8,fun W tW=>?_⟩
 exact⟨_,rfl,ml,_,_,_,rfl,rfl,zX.of zj,at0,_,rfl,ml,_,_,_,rfl,rfl,zX.of zj,at1,W,M0,M1,n,_,q0,q1,rfl,tW,m0,m1,fun R tR=>q R _ _ (g3.trans (g7.trans (g8.trans (g9.trans (Same.new hml _))))) tR⟩
theorem zd1 (T:Txt P w K mg a)(z9:zA P w K mg base zU k a.wj a.wk xJ wR)(yt:zA P w K mg base zU k a.uG a.uH vL Zo)
  (Yb:zA P w K mg base zU k a.Xr a.Xu Z1 Pa)(yx:zA P w K mg base zU k a.xV a.xW xG wJ)(NP:zA P w K mg base zU k a.Nk a.Nm Tg Pb) :
  ∀d:Nat,zA P w K mg base zU (k+d) a.Vj a.Vk Xb (PK d)
 | 0=>by
  refine⟨fun vs H Q E h=>?_,fun A outer s H args us vs Q E _ _ _ _ h=>?_⟩
  ·obtain⟨N,M,p,n,f,c,rfl,_⟩:=h
   rfl
  ·obtain⟨N,M,p,n,f,c,_,_,h1,h2,_⟩:=h
   omega
 | d+1=>zaW T (z9.mono (zr3 _ _)) (yt.mono (zr3 _ _)) (Yb.mono (zr3 _ _)) (yx.mono (zr3 _ _)) (NP.mono (zr3 _ _)) (zd1 T z9 yt Yb yx NP d)
theorem zgB (T:Txt P w K mg a)
  (zT:zA P w K mg base zU k a.yg a.yh z6 (vA a.zu))
  (yJ:zA P w K mg base zU k a.yX a.yZ yI (vm a.zu 9))
  (yS:zA P w K mg base zU k a.xK a.xM yP (ZW a.zu))
  (xU:zA P w K mg base zU k a.wH a.wI xR (vh (zW a.zu)))
  (Vr:zA P w K mg base zU k a.Vj a.Vk Xb (PK 9))
  (zbG:zA P w K mg base zU k a.M6 a.M7 SX (JZ a.zu)):zA P w K mg base zU (k+1) a.zcC a.zcD Jf (J9 a.zu):=by
 refine T.zfU.F.ok zdO (fun vs H Q E h=>?_) (fun cdv A outer s H vs Q E hr h=>?_)
 ·obtain⟨b,os,rs,F,i,j,rfl,_⟩:=h
  rfl
 obtain⟨b,os,rs,F,i,j,rfl,hB0,hlen,mi,mj,q⟩:=h
 refine⟨_,(zf (z7 (yd (pv 0) T.zR T.yp zT hr (za (pv 1) zc)))
   (zf (z7 (yd (pv 0) T.zR T.yp zT hr (za (pv 2) zc)))
   (zf (zH 3 zdO.nd (yd (pv 0) T.zR T.xX yJ hr (za (zp Vr hr T.Vq (za (yd (pv 0) T.zR T.wC yS hr (za (pv 1) zc)) (za (yd (pv 0) T.zR T.wC yS hr (za (pv 2) zc)) (za zq (za (zO zK rfl T.wA yL (za (Y8 (pv 0) T.zR T.uO xU hr) zc)) zc))))) zc)))
   (zf (yC (zL Jr (zp zbG hr T.Lb (za (pv 0) (za (pv 3) zc))) (zp zbG hr T.Lb (za (pv 0) (za (pv 1) zc))) (zQ _)) (zm (zF (pv 1))) z8)
   (zm (zF (pv 3))))))),?_⟩
 have L:=yW a.zu
 have ho:=L.ord hB0
 obtain⟨dx,ml,rl,tl,nd,rv,ts,kvs,h⟩:=id hB0
 refine⟨_,rfl,b,dx,_,rfl,h.hb,rfl,_,rfl,b,os,rs,F,i,rfl,hB0,mi,?_⟩
 refine⟨_,rfl,b,dx,_,rfl,h.hb,rfl,_,rfl,b,os,rs,F,j,rfl,hB0,mj,?_⟩
 refine⟨_,rfl,b,dx,_,rfl,h.hb,rfl,_,rfl,b,dx,_,rfl,h.hb,rfl,_,rfl,b,os,rs,F,i,rfl,hB0,mi,fun t1 tb1=>?_⟩
 refine⟨_,rfl,b,dx,_,rfl,h.hb,rfl,_,rfl,b,os,rs,F,j,rfl,hB0,mj,fun t2 tb2=>?_⟩
 refine⟨_,rfl,b,dx,_,rfl,h.hb,rfl,b,os,rs,F,rfl,hB0,fun ol H1 g1 zln hol=>?_⟩
 refine⟨ol,_,rfl,.inl (zX.of hol),?_⟩
 rw[zrs]
 refine⟨t1,t2,0,os.length,_,_,rfl,ho.le,zrP _,by have:=ho.le;omega,tb1,tb2,fun i hi=>absurd hi (Nat.not_lt_zero _),fun i hi=>absurd hi (Nat.not_lt_zero _),fun R g H2 g2 tR=>?_⟩
 have g12:=g1.trans g2
 have hB2:=L.same hB0 g12
 refine⟨b,os,rs,F,R,0,g,rfl,hB2,by show rs.length+512<=9000000;omega,zrP _,by have:=ho.le;omega,tR,fun i hi=>absurd hi (Nat.not_lt_zero _),fun k rs' H3 aw2 tu2 hB3 gr hk hy ln _ hh=>?_⟩
 have hb:yF.hiN os.length rs'<=yF.hiN os.length rs+63:=by
  have:2^(os.length-2-0)<=2^6:=zrY (by decide) (by have:=ho.le;omega)
  unfold yF.bH at hh
  omega
 refine⟨_,rfl,_,rfl,b,os,rs',F,k,rfl,hB3,hk,fun H4 ms g4 bm=>?_⟩
 refine⟨_,rfl,_,rfl,b,os,rs',F,i,rfl,L.same hB3 g4,zrB mi gr.len,fun H5 ns g5 bn=>?_⟩
 have g45:=g4.trans g5
 have fin:∀k2:Nat,Q (.int (k2:Nat)) H5:=fun k2=>q k2 rs' H5 (fun x o e nF=>g45 _ _ (aw2 x o (g12 _ _ e) nF)) (((yH.of g12).trans tu2).trans (yH.of g45)) (L.same hB3 g45) gr hb
 exact⟨_,_,rfl,rfl,_,rfl,yu (fun e=>⟨_,rfl,fin i⟩) (fun e=>⟨_,rfl,fin k⟩)⟩
theorem zgC (T:Txt P w K mg a):zA P w K mg base zU (k+1) a.xO a.xP yQ (Jc K):=by
 refine T.yG.F.ok Vg (fun vs H Q E h=>?_) (fun cdv A outer s H vs Q E hr h=>?_)
 ·obtain⟨l,ns,i,rfl,_⟩:=h
  rfl
 obtain⟨l,ns,i,rfl,hS,q⟩:=h
 refine⟨_,(zf (yC (zL zfj (pv 1) (zO zK rfl T.wA yL (za (pv 0) zc)) (zQ _)) (zm (zF (yj yw (pv 0) (pv 1) (fun _ _=>rfl)))) z8)
   (zm (zF zq))),?_⟩
 refine⟨_,rfl,_,rfl,l,_,rfl,.inl hS,_,_,rfl,rfl,_,rfl,?_⟩
 refine yu (fun c=>?_) (fun c=>?_)
 ·have c':(i:Int)<(((ns.map V.int).length:Nat):Int):=of_decide_eq_true c
  rw[zrs] at c'
  have hi:i<ns.length:=by omega
  have ec:vZ ns i=ns[i]:=by unfold vZ;rw[zrt hi];rfl
  rw[ec] at q
  exact⟨_,rfl,_,rfl,l,_,i,_,rfl,rfl,hS,vq (by rw[zru,zrt hi];rfl),q⟩
 ·have hi:ns.length<=i:=by
   refine Nat.le_of_not_lt fun hlt=>c (decide_eq_true ?_)
   rw[zrs];omega
  have ec:vZ ns i=0:=by unfold vZ;rw[zr2 hi];rfl
  rw[ec] at q
  exact q
theorem zcL (T:Txt P w K mg a):zA P w K mg base zU (k+1) a.Wj a.Wk Yw (VJ (zW a.zu)):=by
 refine T.Kw.F.ok zcv (fun vs H Q E h=>?_) (fun cdv A outer s H vs Q E hr h=>?_)
 ·obtain⟨b,os,rs,F,rfl,_⟩:=h
  rfl
 obtain⟨b,os,rs,F,rfl,⟨dx,ml,rl,tl,nd,rv,ts,kvs,h⟩,q⟩:=h
 refine⟨_,(zm (zF (zO zK rfl T.wA yL (za (uR (pv 0) rfl) zc)))),?_⟩
 refine⟨_,rfl,b,a.zu,dx,_,_,rfl,h.hb,T.zR,T.wL,rfl,rl,_,rfl,.inl (zX.of h.hr),?_⟩
 rw[h.len]
 exact q H (Same.refl _)
theorem zcM (T:Txt P w K mg a)(zT:zA P w K mg base zU k a.yg a.yh z6 (vA a.zu))(K3:zA P w K mg base zU k a.tE a.tG vI (SJ a.zu))(ZM:zA P w K mg base zU k a.ZF a.ZG uE (Q9 a.zu)) :
  zA P w K mg base zU (k+1) a.TV a.TX Wf (RV (zW a.zu)):=by
 refine T.T6.F.ok zcw (fun vs H Q E h=>?_) (fun cdv A outer s H vs Q E hr h=>?_)
 ·obtain⟨b,os,rs,F,j,x,rfl,_⟩:=h
  rfl
 obtain⟨b,os,rs,F,j,x,rfl,hB,ex,q⟩:=h
 refine⟨_,(zf (z7 (yd (pv 0) T.zR T.yp zT hr (za (pv 1) zc)))
   (zf (yC (zL Mf (pv 1) (uT (za zq (za zq zc))) (by with_unfolding_all rfl)) (zm (zF zkp)) z8)
   (zm (zF (uT (za (yj yw (uR (pv 0) rfl) (yd (pv 0) T.zR T.Ul K3 hr (za (pv 1) zc)) (fun _ _=>rfl)) (za (yd (pv 0) T.zR T.ZK ZM hr (za (pv 1) (za zq zc))) (za (yd (pv 0) T.zR T.ZK ZM hr (za (pv 1) (za zq zc))) zc)))))))),?_⟩
 have hj:=(zrv.mp ex).1
 have BK:=(yW a.zu).bk hB
 obtain⟨dx,ml,rl,tl,nd,rv,ts,kvs,h⟩:=hB
 refine⟨_,rfl,b,dx,_,rfl,h.hb,rfl,_,rfl,b,os,rs,F,j,rfl,⟨dx,ml,rl,tl,nd,rv,ts,kvs,h⟩,hj,?_⟩
 refine⟨_,rfl,by show 2<=sizeLine;decide,fun p hp=>⟨p,_,rfl,.inr (vp.of zj),rfl,rfl,_,rfl,?_⟩⟩
 have g:=Same.new hp (.tup [.int 0,.int 1])
 have h':=h.frame (fun x o e _=>g x o e) (yH.of g)
 have hB':zW a.zu (upd H p (.tup [.int 0,.int 1])) b os rs F:=⟨dx,ml,rl,tl,nd,rv,ts,kvs,h'⟩
 have e0:(if false=true then !inV (V.int (j:Nat)) [.int 0,.int 1] else inV (V.int (j:Nat)) [.int 0,.int 1])=decide (j<2):=by
  rw[if_neg zrw]
  show(((0:Int)==(j:Nat))||(((1:Int)==(j:Nat))||false))=decide (j<2)
  rw[zr8]
  simp only[Bool.or_eq_true,beq_iff_eq,Bool.or_false,decide_eq_true_eq]
  omega
 rw[e0]
 by_cases j2:j<2
 ·rw[decide_eq_true j2]
  refine zaC (q _ _ g ?_)
  have:x=none:=by
   have:j=0\/j=1:=by omega
   rcases this with z | z<;>subst z
   ·rw[BK.h0] at ex;cases ex;rfl
   ·rw[BK.h1] at ex;cases ex;rfl
  subst this
  rfl
 ·rw[decide_eq_false j2]
  obtain⟨i,lo,hi,e,hin,_⟩:=BK.rm j (by omega) hj
  rw[ex] at e
  cases e
  refine RK ?_
  have el:=yF.Ww BK ex
  refine⟨_,rfl,b,a.zu,dx,_,_,rfl,h'.hb,T.zR,T.vO,rfl,_,rfl,b,dx,_,rfl,h'.hb,rfl,_,rfl,b,os,rs,F,j,rfl,hB',hj,?_⟩
  have ei:=zrt hin
  refine⟨ml,_,_,.str os[i],rfl,rfl,zX.of h'.hm,by rw[el];exact vq (by rw[zru,ei];rfl),?_⟩
  refine⟨_,rfl,b,dx,_,rfl,h'.hb,rfl,_,rfl,b,os,rs,F,j,_,false,rfl,hB',ex,?_⟩
  refine⟨_,rfl,b,dx,_,rfl,h'.hb,rfl,_,rfl,b,os,rs,F,j,_,true,rfl,hB',ex,?_⟩
  refine⟨by show 3<=sizeLine;decide,fun p2 hp2=>?_⟩
  exact q _ _ (g.trans (Same.new hp2 _)) ⟨p2,os[i],rfl,ei,zj⟩
theorem K4 (T:Txt P w K mg a)(yt:zA P w K mg base zU k a.uG a.uH vL Zo):zA P w K mg base zU (k+1) a.Xv a.Xw Zv (Wx K):=by
 refine T.T4.F.ok wB (fun vs H Q E h=>?_) (fun cdv A outer s H vs Q E hr h=>?_)
 ·obtain⟨N,n,f,pl,ps,rfl,_⟩:=h
  rfl
 obtain⟨N,n,f,pl,ps,rfl,hn,tb,hpl,hps,zpu,q⟩:=h
 refine⟨_,(zf (zH 3 wB.nd (vY zc))
   (zf (uQ PassesOwn.never rfl (wu (pv 1)) (yU (i:=4) wB.nd rfl (Or.inl rfl)) (zf (zH 5 wB.nd (zp yt hr T.uN (za (pv 0) (za (pv 4) (za zq (za (pv 2) zc))))))
   (zf (zH 6 wB.nd (Jm (zL za5 (pv 5) zq (zQ _)) zq zq))
   (zf (zH 0 wB.nd (zp yt hr T.uN (za (pv 0) (za (pv 4) (za (pv 6) (za (pv 2) zc))))))
   (zm (z7 (ZQ PySem.F.plainAttrs_list PySem.F.slot_list_append PySem.F.type_list_append tY (pv 3) (za (pv 6) zc))))))))
   (zm (zF (pv 3))))),?_⟩
 refine⟨by show 0<=sizeLine;decide,fun l hl=>?_⟩
 have g0:=Same.new hl (.lst [])
 refine⟨_,rfl,pl,rfl,⟨_,g0.seq hpl⟩,?_⟩
 refine Zd (xs:=ps.map fun p=>V.int (p:Nat)) (fun i σ H'=>∃(M:Nat) (g:Nat->Bool) (r:List Bool) (f4 f5 f6:Option V),Same H H'/\H' l=some (.lst (Uo r))/\zN n M g/\r.length=i/\yF.fvP n f ps=r++yF.fvP n g (ps.drop i)/\σ=[some (.int M),some (.ref pl),some (.int n),some (.ref l),f4,f5,f6])
  ⟨N,f,[],_,_,_,g0,zj,tb,rfl,rfl,rfl⟩ ?_ ?_ ?_
 ·rintro i σ H' _ ⟨M,g,r,f4,f5,f6,gg,_⟩
  exact gg.seq hpl
 ·rintro i x σ H' hx ⟨M,g,r,f4,f5,f6,gg,hL,tg,hr',e,rfl⟩
  rw[zru] at hx
  cases hp:ps[i]? with
  | none=>rw[hp] at hx;cases hx
  | some p =>
   rw[hp] at hx
   cases hx
   have hpn:=hps p (zrx hp)
   obtain⟨lt,e'⟩:=zrv.mp hp
   rw[List.drop_eq_getElem_cons lt,e'] at e
   refine⟨_,rfl,_,rfl,_,rfl,M,p,n,false,g,rfl,hpn,hn,tg,fun R tr=>?_⟩
   have tz:=yF.vH tr
   refine⟨_,rfl,rfl,_,rfl,?_⟩
   have ee:(!decide (V.int (R:Nat)=V.int 0))=yF.anyB n fun b=>g (zE b p false):=by
    cases hz:yF.anyB n fun b=>g (zE b p false) with
    | true =>
     rw[hz] at tz
     rw[decide_eq_false fun z=>by injection z with z;exact absurd (decide_eq_true (show R=0 by omega)) (by rw[tz];exact zrw)]
     rfl
    | false =>
     rw[hz] at tz
     have z:R=0:=of_decide_eq_true tz
     subst z
     rfl
   rw[ee]
   cases hz:yF.anyB n fun b=>g (zE b p false) with
   | true =>
    refine yu (fun _=>?_) (fun c=>absurd rfl c)
    refine⟨_,rfl,_,rfl,_,rfl,_,rfl,M,p,n,false,g,rfl,hpn,hn,tg,fun R2 t2=>?_⟩
    refine⟨_,rfl,.inl ⟨rfl,_,zX.of hL⟩,_,rfl,l,_,_,rfl,rfl,hL,?_,?_⟩
    ·unfold Uo;rw[zrs,hr'];exact zY (by omega)
    ·refine⟨R2,_,r++[false],_,_,_,gg.over hl _,by rw[zj];unfold Uo;rw[zrG];rfl,t2,by rw[zrA,hr'];rfl,?_,rfl⟩
     rw[e,List.append_assoc]
     show r++(_::_)=r++([false]++_)
     rw[hz]
     rfl
   | false =>
    refine yu (fun c=>absurd c zrw) (fun _=>?_)
    refine⟨_,rfl,_,rfl,_,rfl,_,rfl,M,p,n,true,g,rfl,hpn,hn,tg,fun R2 t2=>?_⟩
    refine⟨_,rfl,.inl ⟨rfl,_,zX.of hL⟩,_,rfl,l,_,_,rfl,rfl,hL,?_,?_⟩
    ·unfold Uo;rw[zrs,hr'];exact zY (by omega)
    ·refine⟨R2,_,r++[true],_,_,_,gg.over hl _,by rw[zj];unfold Uo;rw[zrG];rfl,t2,by rw[zrA,hr'];rfl,?_,rfl⟩
     rw[e,List.append_assoc]
     show r++(_::_)=r++([true]++_)
     rw[hz]
     rfl
 ·rintro σ H' ⟨M,g,r,f4,f5,f6,gg,hL,tg,hr',e,rfl⟩
  rw[zrs,List.drop_length] at e
  have e1:yF.fvP n f ps=r:=by rw[e];exact List.append_nil _
  refine⟨_,rfl,q l H' gg hl ?_⟩
  rw[e1]
  exact hL
theorem zcN (T:Txt P w K mg a)(zan:zA P w K mg base zU k a.Xv a.Xw Zv (Wx K)):zA P w K mg base zU (k+1) a.Tt a.Tv X6 RW:=by
 refine T.Kq.F.ok zcu (fun vs H Q E h=>?_) (fun cdv A outer s H vs Q E hr h=>?_)
 ·obtain⟨N,n,f,rfl,_⟩:=h
  rfl
 obtain⟨N,n,f,rfl,hn,tb,any,q⟩:=h
 refine⟨_,(zm (zF (zp zan hr T.T4 (za (pv 0) (za (zca rfl rfl T.T7 rfl T.Y5 (za (pv 1) zc)) (za (pv 1) zc)))))),?_⟩
 refine⟨_,rfl,_,rfl,n,rfl,by omega,fun pl hpl=>?_⟩
 have g0:=Same.new hpl (.lst (Ka n))
 refine⟨_,rfl,N,n,f,pl,List.range n,rfl,hn,tb,zX.of zj,fun p hp=>List.mem_range.mp hp,by rw[zrK];omega,fun l H' g hl hl'=>?_⟩
 exact q l H' _ (g0.trans g) (g0.free hl) hl' (yF.zeJ any)
theorem zd2 (T:Txt P w K mg a)(xU:zA P w K mg base zU k a.wH a.wI xR (vh (zW a.zu))):zA P w K mg base zU (k+1) a.M8 a.M9 S5 (Mx a.zu):=by
 refine T.zbE.F.ok zeX (fun vs H Q E h=>?_) (fun cdv A outer s H vs Q E hr h=>?_)
 ·obtain⟨b,os,rs,F,x,rfl,_⟩:=h
  rfl
 obtain⟨b,os,rs,F,x,rfl,hB,ax,lx,q⟩:=h
 refine⟨_,(zm (zF (zbM (YK xr (zO QJ rfl T.wA yL (za (pv 1) zc)) (zO zK rfl T.wA yL (za (Y8 (pv 0) T.zR T.uO xU hr) zc)) (zQ _)) (zee (zO (Uz rfl) rfl T.zdS JD (za (tK (vX:=zx M5) (js:=[]) rfl (by show Yt _ _ "sign" [];exact lco (by decide +kernel)) rfl (zk0 (pv 1)) (by show ∀j∈([]:List Nat),j<2;decide) (fun cl C s₂ H₂ fp=>(YK (zkU (K:=K) rfl) (pv 0) (XM (v:=.ref a.Jh) rfl T.zjJ rfl) (by with_unfolding_all rfl)))) zc)))))),?_⟩
 have L:=yW a.zu
 obtain⟨dx,fs,zcK,hm⟩:=L.ins hB
 have lz:x.length<=sizeLine:=zrL (zY lx)
 refine⟨_,rfl,x,rfl,lz,_,rfl,b,dx,fs,rfl,zcK,hm _ (by decide +kernel),b,os,rs,F,rfl,hB,fun l1 H1 g1 fl1 hl1=>?_⟩
 refine⟨l1,_,rfl,.inl (zX.of hl1),?_⟩
 rw[zrs]
 have e1:decide (V.int (x.length:Nat)=V.int (os.length:Nat))=decide (x.length=os.length):=decide_eq_decide.mpr ⟨fun e=>by injection e;omega,fun e=>by rw[e]⟩
 refine⟨rfl,_,rfl,?_⟩
 rw[e1]
 have q:=fun H' g=>q H' g
 unfold zfP at q
 refine yu (fun c=>?_) (fun c=>?_)
 ·rw[c,Bool.true_and] at q
  refine⟨_,rfl,x,rfl,ax,?_⟩
  refine zjx (x:=x) (fun v=>.bl (inV v ((["-", "0", "1"]:List Str).map V.str))) lz (fun v H' Q0 hv g hQ=>?_) (fun H2 l2 g2 hl2=>?_)
  ·unfold sgs at hv
   obtain⟨c,_,rfl⟩:=List.mem_map.mp hv
   exact⟨_,rfl,a.Jh,_,rfl,.inr (T.zjK H'),rfl,rfl,hQ _ g⟩
  ·have em:(sgs x).map (fun v=>V.bl (inV v ((["-", "0", "1"]:List Str).map V.str)))=(x.cps.toList.map fun c=>decide (c=45\/c=48\/c=49)).map V.bl:=by
    unfold sgs
    rw[zr4,zr4]
    refine List.map_congr_left fun c _=>congrArg V.bl ?_
    exact zjy c
   rw[em]
   refine⟨l2,_,rfl,zX.of zj,?_⟩
   rw[List.all_map]
   exact q _ ((g1.trans g2).trans (Same.new hl2 _))
 ·have c':=Bool.eq_false_iff.mpr c
  rw[c',Bool.false_and] at q
  exact q _ g1
theorem K5 (T:Txt P w K mg a)(zgD:zA P w K mg base zU k a.M8 a.M9 S5 (Mx a.zu)):zA P w K mg base zU (k+1) a.uf a.ug wY (Xl a.zu):=by
 refine T.ZJ.F.ok KR (fun vs H Q E h=>?_) (fun cdv A outer s H vs Q E hr h=>?_)
 ·obtain⟨b,os,rs,F,c,rfl,_⟩:=h
  rfl
 obtain⟨b,os,rs,F,c,rfl,hB,hc,q⟩:=h
 refine⟨_,(zm (yC (Uu (Ys (zp zgD hr T.zbE (za (pv 0) (za (pv 1) zc))) (fun _=>rfl))) (zm Uw) z8)),?_⟩
 have o8:=((yW a.zu).ord hB).le
 refine⟨_,rfl,_,rfl,b,os,rs,F,cbS c,rfl,hB,zcg c,by rw[uz];omega,fun H1 g1=>?_⟩
 rw[zhZ,decide_eq_true hc]
 exact⟨_,rfl,RK (q _ g1)⟩
theorem zao (T:Txt P w K mg a)(z9:zA P w K mg base zU k a.wj a.wk xJ wR)(yx:zA P w K mg base zU k a.xV a.xW xG wJ)(Yc:zA P w K mg base zU k a.Z5 a.Z6 Za ZX):zA P w K mg base zU (k+1) a.WD a.WK Yk (VL K):=by
 refine T.Rw.F.ok wV (fun vs H Q E h=>?_) (fun cdv A outer s H vs Q E hr h=>?_)
 ·obtain⟨pl,rl,n,ps,r,rfl,_⟩:=h
  rfl
 obtain⟨pl,rl,n,ps,r,rfl,n8,hl,hm,hp,el,l8,q⟩:=h
 refine⟨_,(zf (zH 3 wV.nd (zp z9 hr T.vG (za (pv 2) zc)))
   (zf (uQ PassesOwn.never rfl (zk3 rfl T.zmO (za (pv 0) (za (pv 1) zc))) (zgQ rfl (Qw (yU (i:=4) wV.nd rfl (Or.inl rfl)) (Qw (yU (i:=5) wV.nd rfl (Or.inl rfl)) zfe))) (zf (zH 6 wV.nd (zp yx hr T.Zb (za (pv 4) (za (pv 2) zc))))
   (zm (zH 3 wV.nd (Jm (zL xr (pv 5) zq (zQ _)) (zJ uw (pv 3) (pv 6)) (zp Yc hr T.Vn (za (pv 3) (za (pv 6) zc))))))))
   (zm (zF (pv 3))))),?_⟩
 refine⟨_,rfl,n,rfl,n8,?_⟩
 refine⟨_,rfl,_,rfl,pl,rl,RZ ps,Uo r,rfl,hl,hm,?_⟩
 have e1:(RZ ps).length=ps.length:=zrs _
 have e2:(Uo r).length=r.length:=zrs _
 refine zje (xs:=RZ ps) (ys:=Uo r) (by omega) (fun i σ H'=>Same H H'/\∃(M:Nat) (f4 f5 f6:Option V),zN n M (hav ((ps.zip r).take i))/\σ=[some (.ref pl),some (.ref rl),some (.int (n:Nat)),some (.int (M:Nat)),f4,f5,f6]) ⟨Same.refl _,_,_,_,_,XS n,rfl⟩ ?_ ?_ ?_
 ·rintro i σ H' _ ⟨g,_⟩
  exact⟨g.seq hl,g.seq hm⟩
 ·rintro i x y σ H' t hx hy ⟨g,M,f4,f5,f6,tm,rfl⟩ ht
  unfold RZ at hx
  unfold Uo at hy
  rw[zru] at hx hy
  cases hj:ps[i]? with
  | none=>rw[hj] at hx;cases hx
  | some p =>
   rw[hj] at hx
   cases hx
   cases hk:r[i]? with
   | none=>rw[hk] at hy;cases hy
   | some v =>
    rw[hk] at hy
    cases hy
    have hz:(ps.zip r)[i]?=some (p,v):=List.getElem?_zip_eq_some.mpr ⟨hj,hk⟩
    have pn:=hp p (zrx hj)
    have nx:hav ((ps.zip r).take (i+1))=fun b=>hav ((ps.zip r).take i) b&&(b.testBit p==v):=funext fun b=>by
     rw[zZ hz]
     unfold hav
     rw[List.all_append]
     simp
    refine⟨t,_,rfl,vp.of zj,rfl,_,_,rfl,_,_,rfl,rfl,?_⟩
    refine⟨_,rfl,_,rfl,p,n,rfl,pn,n8,fun W tw=>?_⟩
    refine⟨_,rfl,rfl,_,rfl,?_⟩
    cases v with
    | true =>
     refine zaC ⟨_,rfl,_,rfl,M,W,rfl,rfl,g.trans (Same.new ht _),_,_,_,_,?_,rfl⟩
     rw[nx]
     have e:(fun b=>hav ((ps.zip r).take i) b&&(b.testBit p==true))=fun b=>hav ((ps.zip r).take i) b&&b.testBit p:=funext fun b=>by simp
     rw[e]
     exact zjm tm tw
    | false =>
     refine RK ⟨_,rfl,_,rfl,M,W,n,_,_,rfl,tm,tw,fun R tr=>⟨g.trans (Same.new ht _),R,_,_,_,?_,rfl⟩⟩
     rw[nx]
     have e:(fun b=>hav ((ps.zip r).take i) b&&(b.testBit p==false))=fun b=>hav ((ps.zip r).take i) b&&!b.testBit p:=funext fun b=>by cases b.testBit p<;>rfl
     rw[e]
     exact tr
 ·rintro σ H' ⟨g,M,f4,f5,f6,tm,rfl⟩
  have el:(ps.zip r).length=(RZ ps).length:=by rw[List.length_zip,e1];omega
  rw[<-el,zrV] at tm
  exact⟨_,rfl,q M H' g tm⟩
theorem ze7 (T:Txt P w K mg a)(zaX:zA P w K mg base zU k a.WD a.WK Yk (VL K)):zA P w K mg base zU (k+1) a.Xe a.Xf Z4 W8:=by
 refine T.Vp.F.ok zad (fun vs H Q E h=>?_) (fun cdv A outer s H vs Q E hr h=>?_)
 ·obtain⟨c,rfl,_⟩:=h
  rfl
 obtain⟨c,rfl,c8,q⟩:=h
 refine⟨_,(zf (zeO (i:=1) zad.nd rfl (Or.inl rfl) (.inl rfl) (vX:=zx Vd) (js:=[]) rfl (by show zfH (zx Vd) _ "place" "sign" [];exact⟨⟨rfl,by decide +kernel,by decide +kernel,by decide +kernel,by decide +kernel⟩,by decide +kernel,by decide +kernel,by decide +kernel⟩) rfl (zdA rfl T.Ky (za (pv 0) zc)) (by show ∀j∈([]:List Nat),j<2;decide) (fun cl C s₂ H₂ fp=>(zL za5 (pv 1) yM (zQ _))) (fun cl C s₂ H₂ fp=>(pv 0)) rfl)
   (zm (zF (zp zaX hr T.Rw (za (pv 1) (za (tK (vX:=zx Vd) (js:=[0]) rfl (by show Yt _ _ "place" ["cube"];exact lco (by decide +kernel)) rfl (wu (pv 1)) (by show ∀j∈([0]:List Nat),j<2;decide) (fun cl C s₂ H₂ fp=>(tX zgp rfl T.zkd zhe (za (yj zew (pv 1) (pv 0) (fun _ _=>rfl)) zc)))) (za (zO QJ rfl T.wA yL (za (pv 0) zc)) zc))))))),?_⟩
 have sz:(cbS c).cps.size<=sizeLine:=by rw[Tc];exact zrL (zY (by omega))
 refine⟨_,rfl,cbS c,rfl,zcg c,?_⟩
 refine zhV (fun i ys H'=>Same H H'/\ys=RZ ((Mw c).filter fun j=>decide (j<i))/\i<=c.length) ⟨Same.refl _,by rw[List.filter_eq_nil_iff.mpr fun j _=>by simp];rfl,zrP _⟩ sz ?_ ?_ ?_
 ·rintro i ys H' ⟨_,rfl,hi⟩
  rw[J0]
  exact zbx c hi
 ·rintro i cc ys H' p Q1 Q2 hcc ⟨g,rfl,_⟩ hp h1 h2
  obtain⟨s0,hs,rfl⟩:=zhW hcc
  have hi:i<c.length:=(zrv.mp hs).1
  have g2:=g.trans (Same.new hp (.tup [.int (i:Nat),.str ⟨#[SN s0]⟩]))
  have step:=zdD (q:=c) hs
  refine⟨_,rfl,rfl,_,rfl,?_⟩
  cases s0 with
  | none =>
   refine zhA (show V.str ⟨#[45]⟩=V.str "-" by decide +kernel) (h2 _ ⟨g2,?_,hi⟩)
   rw[step]
   show _=RZ (_++[])
   rw[List.append_nil]
  | some v =>
   have ne:V.str ⟨#[SN (some v)]⟩≠V.str "-" := by cases v<;>decide +kernel
   show if (!decide (V.str ⟨#[SN (some v)]⟩=V.str "-"))=true then _ else _
   rw[decide_eq_false ne]
   refine zaC ⟨_,rfl,h1 _ _ ⟨g2,?_,hi⟩⟩
   rw[step]
   unfold RZ
   rw[zrG]
   rfl
 ·rintro ys H1 pl ⟨g,rfl,_⟩ hpl
  have ef:((Mw c).filter fun j=>decide (j<(cbS c).cps.size))=Mw c:=List.filter_eq_self.mpr fun j hj=>decide_eq_true (by rw[Tc];exact zeR j hj)
  rw[ef]
  have g1:=g.trans (Same.new hpl (.lst (RZ (Mw c))))
  have e1:upd H1 pl (.lst (RZ (Mw c))) pl=some _:=zj
  generalize upd H1 pl _=H2 at g1 e1 ⊢
  have p8:(Mw c).length<=8:=zrO (zr1 _ _) (by rw[zrK];exact c8)
  refine⟨_,rfl,_,rfl,pl,rfl,⟨_,zX.of e1⟩,?_⟩
  refine J6 (xs:=RZ (Mw c)) (fun i ys H'=>Same H2 H'/\ys=Uo ((vlC c).take i)) ⟨Same.refl _,rfl⟩ (by rw[J0];exact zrL (zY (by omega))) ?_ ?_ ?_
  ·rintro i ys H' hi ⟨g,rfl⟩
   refine⟨zX.of (g _ _ e1),?_⟩
   unfold Uo
   rw[zrs,zrQ]
   omega
  ·rintro i x ys H' Q0 hx ⟨g,rfl⟩ hQ
   obtain⟨j,hj,rfl⟩:=zk8 hx
   have mj:=zrx hj
   obtain⟨v,hv⟩:=zdE mj
   refine⟨_,rfl,_,rfl,cbS c,_,_,rfl,rfl,by rw[uz];exact zrL (zY (by omega)),vq (zjp hv),v,?_,?_⟩
   ·show [V.str ⟨#[SN (some v)]⟩]=_
    cases v<;>decide +kernel
   ·refine hQ _ _ ⟨g,?_⟩
    have hvl:(vlC c)[i]?=some v:=by
     unfold vlC
     rw[zru,hj]
     show some ((c.getD j none).getD false)=_
     rw[zrF,hv]
     rfl
    rw[zZ hvl]
    unfold Uo
    rw[zrG]
    rfl
  ·rintro ys H3 vl ⟨g,rfl⟩ hvl
   have lv:(vlC c).length=(Mw c).length:=zrs _
   rw[J0,<-lv,zrV]
   have g3:=g.trans (Same.new hvl (.lst (Uo (vlC c))))
   refine⟨_,rfl,cbS c,rfl,by rw[uz];exact zrL (zY (by omega)),?_⟩
   rw[uz]
   refine⟨pl,vl,c.length,Mw c,vlC c,rfl,c8,zX.of (g3 _ _ e1),zX.of zj,zeR,lv.symm,p8,fun R H' g' tR=>?_⟩
   have tR:zN c.length R (YG c):=fun b=>by rw[tR b,zlb]
   exact q R H' ((g1.trans g3).trans g') tR
theorem zcO (T:Txt P w K mg a)(uo:zA P w K mg base zU k a.uf a.ug wY (Xl a.zu))(Yd:zA P w K mg base zU k a.Xe a.Xf Z4 (W8))
  (yJ:zA P w K mg base zU k a.yX a.yZ yI (vm a.zu 9)):zA P w K mg base zU (k+1) a.TY a.T3 Wg (R6 a.zu):=by
 refine T.Ku.F.ok zcx (fun vs H Q E h=>?_) (fun cdv A outer s H vs Q E hr h=>?_)
 ·obtain⟨b,os,rs,F,c,rfl,_⟩:=h
  rfl
 obtain⟨b,os,rs,F,c,rfl,hB,hlen,hc,q⟩:=h
 refine⟨_,(zf (z7 (zp uo hr T.ZJ (za (pv 0) (za (pv 1) zc))))
   (zm (zF (yd (pv 0) T.zR T.xX yJ hr (za (zp Yd hr T.Vp (za (pv 1) zc)) zc))))),?_⟩
 have L:=yW a.zu
 have o8:=(L.ord hB).le
 refine⟨_,rfl,_,rfl,b,os,rs,F,c,rfl,hB,hc,fun H1 g1=>?_⟩
 have hB1:=L.same hB g1
 obtain⟨dx,_,_,_,_,_,_,_,h1⟩:=id hB1
 refine⟨_,rfl,b,dx,_,rfl,h1.hb,rfl,_,rfl,c,rfl,by omega,fun R H2 g2 tR=>?_⟩
 rw[hc] at tR
 exact JT (g1.trans g2) (L.same hB1 g2) hlen tR (fun r=>rfl) q
theorem zcP (T:Txt P w K mg a)(zT:zA P w K mg base zU k a.yg a.yh z6 (vA a.zu))(uo:zA P w K mg base zU k a.uf a.ug wY (Xl a.zu))
  (Yd:zA P w K mg base zU k a.Xe a.Xf Z4 (W8))(yS:zA P w K mg base zU k a.xK a.xM yP (ZW a.zu))(Yc:zA P w K mg base zU k a.Z5 a.Z6 Za (ZX)):zA P w K mg base zU (k+1) a.Wm a.Wn Yx (Py a.zu):=by
 refine T.Wq.F.ok zcy (fun vs H Q E h=>?_) (fun cdv A outer s H vs Q E hr h=>?_)
 ·obtain⟨b,os,rs,F,k0,c,rfl,_⟩:=h
  rfl
 obtain⟨b,os,rs,F,k0,c,rfl,hB,hk,hc,q⟩:=h
 refine⟨_,(zf (z7 (yd (pv 0) T.zR T.yp zT hr (za (pv 1) zc)))
   (zf (z7 (zp uo hr T.ZJ (za (pv 0) (za (pv 2) zc))))
   (zm (zF (YK xr (zp Yc hr T.Vn (za (zp Yd hr T.Vp (za (pv 2) zc)) (za (yd (pv 0) T.zR T.wC yS hr (za (pv 1) zc)) zc))) zq (zQ _)))))),?_⟩
 have L:=yW a.zu
 have o8:=(L.ord hB).le
 obtain⟨dx,_,_,_,_,_,_,_,h0⟩:=id hB
 refine⟨_,rfl,b,dx,_,rfl,h0.hb,rfl,_,rfl,b,os,rs,F,k0,rfl,hB,hk,?_⟩
 refine⟨_,rfl,_,rfl,b,os,rs,F,c,rfl,hB,hc,fun H1 g1=>?_⟩
 refine⟨_,rfl,c,rfl,by omega,fun R H2 g2 tR=>?_⟩
 rw[hc] at tR
 have hB2:=L.same hB (g1.trans g2)
 refine⟨_,rfl,b,dx,_,rfl,(g1.trans g2) _ _ h0.hb,rfl,_,rfl,b,os,rs,F,k0,rfl,hB2,hk,fun t tt=>?_⟩
 refine⟨R,t,os.length,_,_,rfl,tR,tt,fun W tW=>?_⟩
 have e:decide (V.int (W:Nat)=V.int 0)=inB os.length (tB rs k0) c:=by
  refine Eq.trans ?_ (zeS tW)
  exact decide_eq_decide.mpr ⟨fun e=>by injection e;omega,fun e=>by rw[e];rfl⟩
 refine⟨rfl,?_⟩
 rw[e]
 exact q _ (g1.trans g2)
theorem ze8 (T:Txt P w K mg a):zA P w K mg base zU (k+1) a.S7 a.S8 Ve SQ:=by
 refine T.zbF.F.ok zeY (fun vs H Q E h=>?_) (fun cdv A outer s H vs Q E hr h=>?_)
 ·obtain⟨c,rfl,_⟩:=h
  rfl
 obtain⟨c,rfl,c8,q⟩:=h
 refine⟨_,(zm (zF (zjf (vX:=zx S6) (js:=[0]) rfl (by show zfH (zx S6) _ "place" "sign" ["cube"];exact⟨⟨rfl,by decide +kernel,by decide +kernel,by decide +kernel,by decide +kernel⟩,by decide +kernel,by decide +kernel,by decide +kernel⟩) rfl (zdA rfl T.Ky (za (pv 0) zc)) (by show ∀j∈([0]:List Nat),j<1;decide) (fun cl C s₂ H₂ fp=>(zL za5 (pv 1) yM (zQ _))) (fun cl C s₂ H₂ fp=>(zJ Xg (zJ Xg (QD zhS (pv 2) zbP (QC (pv 0))) yM) (QD zhS (pv 2) (QC (zJ xY (pv 0) zq)) zbP)))))),?_⟩
 have sz:(cbS c).cps.size<=sizeLine:=by rw[Tc];exact zrL (zY (by omega))
 have lz:(cbS c).length<=sizeLine:=sz
 refine⟨_,rfl,cbS c,rfl,zcg c,?_⟩
 refine zhV (fun i ys H'=>Same H H'/\ys=(((Mw c).filter fun j=>decide (j<i)).map fun i=>c.set i none).map (fun q=>V.str (cbS q))/\i<=c.length) ⟨Same.refl _,by rw[List.filter_eq_nil_iff.mpr fun j _=>by simp];rfl,zrP _⟩ sz ?_ ?_ ?_
 ·rintro i ys H' ⟨_,rfl,hi⟩
  rw[zrs,zrs]
  exact zbx c hi
 ·rintro i cc ys H' p Q1 Q2 hcc ⟨g,rfl,_⟩ hp h1 h2
  obtain⟨s0,hs,rfl⟩:=zhW hcc
  have hi:i<c.length:=(zrv.mp hs).1
  have g2:=g.trans (Same.new hp (.tup [.int (i:Nat),.str ⟨#[SN s0]⟩]))
  have step:=zdD (q:=c) hs
  refine⟨_,rfl,rfl,_,rfl,?_⟩
  cases s0 with
  | none =>
   refine zhA (show V.str ⟨#[45]⟩=V.str "-" by decide +kernel) (h2 _ ⟨g2,?_,hi⟩)
   rw[step]
   show _=((_++[]).map _).map _
   rw[List.append_nil]
  | some v =>
   have ne:V.str ⟨#[SN (some v)]⟩≠V.str "-" := by cases v<;>decide +kernel
   show if (!decide (V.str ⟨#[SN (some v)]⟩=V.str "-"))=true then _ else _
   rw[decide_eq_false ne]
   refine zaC ⟨_,rfl,_,rfl,_,rfl,cbS c,rfl,lz,?_⟩
   rw[zjq (zrL hi)]
   have l1:(cbS (c.take i)).length+(Str.ofString "-").length<=sizeLine:=by
    rw[uz,zrQ]
    exact zrL (zY (by show min i c.length+1<=1000;omega))
   refine⟨_,_,rfl,rfl,l1,?_⟩
   rw[dash,zch]
   refine⟨_,rfl,_,rfl,_,_,rfl,rfl,_,rfl,cbS c,rfl,lz,?_⟩
   have er:(i:Int)+1=((i+1:Nat):Int):=rfl
   rw[er,zjr (by omega:i+1<=c.length)]
   refine⟨_,_,rfl,rfl,?_,?_⟩
   ·rw[uz,uz,zrA,zrQ,List.length_drop]
    exact zrL (zY (by show min i c.length+1+(c.length-(i+1))<=1000;omega))
   ·rw[zch]
    refine h1 _ _ ⟨g2,?_,hi⟩
    rw[step,zrG,zrG]
    have es:c.set i none=c.take i++[none]++c.drop (i+1):=by
     rw[List.set_eq_take_append_cons_drop,if_pos hi,List.append_assoc]
     rfl
    show _=_++[V.str (cbS (c.set i none))]
    rw[es]
 ·rintro ys H1 pl ⟨g,rfl,_⟩ hpl
  have ef:((Mw c).filter fun j=>decide (j<(cbS c).cps.size))=Mw c:=List.filter_eq_self.mpr fun j hj=>decide_eq_true (by rw[Tc];exact zeR j hj)
  rw[ef]
  exact q pl _ (g.trans (Same.new hpl _)) (g.free hpl) zj
theorem zd3 (T:Txt P w K mg a)(Wr:zA P w K mg base zU k a.Wm a.Wn Yx (Py a.zu))(zgE:zA P w K mg base zU k a.S7 a.S8 Ve (SQ)):zA P w K mg base zU (k+1) a.Qh a.Qi VP (Mz a.zu):=by
 refine T.zag.F.ok zdM (fun vs H Q E h=>?_) (fun cdv A outer s H vs Q E hr h=>?_)
 ·obtain⟨b,os,rs,F,k0,c,rfl,_⟩:=h
  rfl
 obtain⟨b,os,rs,F,k0,c,rfl,hB,hk,hc,q⟩:=h
 refine⟨_,(zm (zF (zbM (zp Wr hr T.Wq (za (pv 0) (za (pv 1) (za (pv 2) zc)))) (zee (zkr (zO (zhT rfl) rfl T.zmL zk9 (za (tK (vX:=zx Qd) (js:=[0,1]) rfl (by show Yt _ _ "wider" ["book", "room"];exact lco (by decide +kernel)) rfl (wu (zp zgE hr T.zbF (za (pv 2) zc))) (by show ∀j∈([0,1]:List Nat),j<3;decide) (fun cl C s₂ H₂ fp=>(zp Wr hr T.Wq (za (pv 1) (za (pv 2) (za (pv 0) zc)))))) zc))))))),?_⟩
 have L:=yW a.zu
 have o8:=(L.ord hB).le
 refine⟨_,rfl,_,rfl,_,rfl,b,os,rs,F,k0,c,rfl,hB,hk,hc,fun H1 g1=>⟨_,rfl,?_⟩⟩
 unfold vQ at q
 cases e:inB os.length (tB rs k0) c with
 | false =>
  rw[e,Bool.false_and] at q
  exact RK (q _ g1)
 | true =>
  rw[e,Bool.true_and] at q
  refine zaC ⟨_,rfl,c,rfl,by omega,fun l H2 g2 fl hl=>?_⟩
  have hB2:=L.same hB (g1.trans g2)
  have wl:(wid c).length<=8:=by
   unfold wid
   rw[zrs]
   exact zrO (zr1 _ _) (by rw[zrK];omega)
  refine⟨l,rfl,⟨_,zX.of hl⟩,?_⟩
  refine J6 (xs:=(wid c).map fun q=>V.str (cbS q)) (fun i ys H'=>Same H2 H'/\ys=(((wid c).take i).map (inB os.length (tB rs k0))).map V.bl) ⟨Same.refl _,rfl⟩ (by rw[zrs];exact zrL (zY (by omega))) ?_ ?_ ?_
  ·rintro i ys H' hi ⟨g,rfl⟩
   refine⟨zX.of (g _ _ hl),?_⟩
   rw[zrs,zrs,zrQ]
   omega
  ·rintro i x ys H' Q0 hx ⟨g,rfl⟩ hQ
   rw[zru] at hx
   cases hw:(wid c)[i]? with
   | none=>rw[hw] at hx;cases hx
   | some c2 =>
    rw[hw] at hx
    cases hx
    have l2:c2.length=os.length:=by
     obtain⟨j,_,rfl⟩:=List.mem_map.mp (zrx hw)
     rw[List.length_set];exact hc
    refine⟨_,rfl,_,rfl,_,rfl,b,os,rs,F,k0,c2,rfl,L.same hB2 g,hk,l2,fun H3 g3=>hQ _ _ ⟨g.trans g3,?_⟩⟩
    rw[zZ hw,zrG,zrG]
    rfl
  ·rintro ys H3 p ⟨g,rfl⟩ hp
   rw[zrs,zrV]
   refine⟨p,_,rfl,zX.of zj,?_⟩
   rw[List.any_map]
   exact⟨_,rfl,q _ ((g1.trans g2).trans (g.trans (Same.new hp _)))⟩
theorem zap {d:Nat}(T:Txt P w K mg a)(z9:zA P w K mg base zU k a.wj a.wk xJ wR)(yt:zA P w K mg base zU k a.uG a.uH vL Zo)
  (uZ:zA P w K mg base zU k a.uW a.uX vM (W9 d)):zA P w K mg base zU (k+1) a.uW a.uX vM (W9 (d+1)):=by
 refine T.uY.F.ok wZ (fun vs H Q E h=>?_) (fun cdv A outer s H vs Q E hr h=>?_)
 ·obtain⟨N,p,n,f,rfl,_⟩:=h
  rfl
 obtain⟨N,p,n,f,rfl,n8,hp,hd,tf,ff,q⟩:=h
 refine⟨_,(zf (yC (zL xr (pv 0) zq (zQ _)) (zm (zF (vY zc))) z8)
   (zf (yC (zL xr (pv 0) (zp z9 hr T.vG (za (pv 2) zc)) (zQ _)) (zm (zF (vY (za (zJ zjw yM (zJ Jp (pv 2) (pv 1))) zc)))) z8)
   (zf (zH 3 wZ.nd (zp yt hr T.uN (za (pv 0) (za (pv 1) (za zq (za (pv 2) zc))))))
   (zf (zH 4 wZ.nd (zp yt hr T.uN (za (pv 0) (za (pv 1) (za zq (za (pv 2) zc))))))
   (zf (RB (i:=5) wZ.nd rfl (Or.inr rfl) (zp uZ hr T.uY (za (zJ uw (pv 3) (pv 4)) (za (zJ xY (pv 1) zq) (za (pv 2) zc)))))
   (zf (Uy (i:=6) wZ.nd rfl (Or.inl rfl) (.inl rfl) (vX:=zx wK) (js:=[5]) rfl (by show Yt _ _ "cube" ["either"];exact lco (by decide +kernel)) rfl (wu (zp uZ hr T.uY (za (pv 3) (za (zJ xY (pv 1) zq) (za (pv 2) zc))))) (by show ∀j∈([5]:List Nat),j<8;decide) (fun cl C s₂ H₂ fp pins s' σ' H' Q I h=>wpAny_tests_one ((zL (zbg (K:=K) rfl) (pv 0) (pv 1) (by with_unfolding_all rfl)) pins s' σ' H' Q I h)) (fun cl C s₂ H₂ fp=>(pv 0)) rfl)
   (zf (Uy (i:=7) wZ.nd rfl (Or.inl rfl) (.inl rfl) (vX:=zx wK) (js:=[5]) rfl (by show Yt _ _ "cube" ["either"];exact lco (by decide +kernel)) rfl (wu (zp uZ hr T.uY (za (pv 4) (za (zJ xY (pv 1) zq) (za (pv 2) zc))))) (by show ∀j∈([5]:List Nat),j<8;decide) (fun cl C s₂ H₂ fp pins s' σ' H' Q I h=>wpAny_tests_one ((zL (zbg (K:=K) rfl) (pv 0) (pv 1) (by with_unfolding_all rfl)) pins s' σ' H' Q I h)) (fun cl C s₂ H₂ fp=>(pv 0)) rfl)
   (zm (zF (zJ zfF (zJ zfF (tK (vX:=zx wK) (js:=[]) rfl (by show Yt _ _ "cube" [];exact lco (by decide +kernel)) rfl (wu (pv 5)) (by show ∀j∈([]:List Nat),j<8;decide) (fun cl C s₂ H₂ fp=>(zJ Xg yM (pv 0)))) (tK (vX:=zx wK) (js:=[]) rfl (by show Yt _ _ "cube" [];exact lco (by decide +kernel)) rfl (wu (pv 6)) (by show ∀j∈([]:List Nat),j<8;decide) (fun cl C s₂ H₂ fp=>(zJ Xg yM (pv 0))))) (tK (vX:=zx wK) (js:=[]) rfl (by show Yt _ _ "cube" [];exact lco (by decide +kernel)) rfl (wu (pv 7)) (by show ∀j∈([]:List Nat),j<8;decide) (fun cl C s₂ H₂ fp=>(zJ Xg yM (pv 0)))))))))))))),?_⟩
 have ei:∀{i j:Nat},V.int (i:Int)=V.int (j:Int)->i=j:=fun h=>by injection h with h;exact Int.ofNat.inj h
 refine⟨_,rfl,rfl,_,rfl,yu (fun e=>?_) (fun e1=>?_)⟩
 ·have e0:N=0:=ei (of_decide_eq_true e)
  subst e0
  have no:∀b,b<2^n->f b=false:=fun b hb=>by rw[<-yF.Zn tf hb];exact Nat.zero_testBit _
  exact⟨by show 0<=sizeLine;decide,fun l hl=>q l [] _ (Same.new hl _) hl zj (Qt.no hp no)⟩
 refine⟨_,rfl,_,rfl,n,rfl,n8,rfl,_,rfl,yu (fun e=>?_) (fun e2=>?_)⟩
 ·have e0:N=2^2^n-1:=ei (of_decide_eq_true e)
  have al:∀b,b<2^n->f b=true:=fun b hb=>by rw[<-yF.Zn tf hb,e0];exact yF.Zn (XS n) hb
  refine⟨_,rfl,_,rfl,_,_,rfl,rfl,n-p,rfl,?_,by omega,by show 1<=sizeLine;decide,fun l hl=>q l [_] _ (Same.new hl _) hl zj (Qt.yes hp al)⟩
  show V.int ((n:Int)-(p:Int))=V.int ((n-p:Nat):Int)
  rw[Int.ofNat_sub hp]
 have n1:¬∀b,b<2^n->f b=true:=fun z=>e2 (decide_eq_true (congrArg (fun m:Nat=>V.int (m:Int)) (yF.Yj tf (XS n) z)))
 have n0:¬∀b,b<2^n->f b=false:=fun z=>e1 (decide_eq_true (congrArg (fun m:Nat=>V.int (m:Int)) (yF.Yj tf (vH n) z)))
 have hpn:p<n:=by
  refine Nat.lt_of_le_of_ne hp fun z=>?_
  subst z
  have cf:=yF.vK ff
  cases h1:f 0 with
  | false=>exact n0 fun b hb=>by rw[cf b hb,h1]
  | true=>exact n1 fun b hb=>by rw[cf b hb,h1]
 refine⟨_,rfl,_,rfl,_,rfl,N,p,n,false,f,rfl,hpn,n8,tf,fun M0 t0=>?_⟩
 refine⟨_,rfl,_,rfl,_,rfl,N,p,n,true,f,rfl,hpn,n8,tf,fun M1 t1=>?_⟩
 have f0:=Y9 (v:=false) hpn ff
 have f1:=Y9 (v:=true) hpn ff
 refine⟨_,rfl,_,rfl,M0,M1,rfl,rfl,_,rfl,_,_,rfl,rfl,_,rfl,M0&&&M1,p+1,n,_,rfl,n8,hpn,by omega,ur t0 t1,fun i hi=>zh3 (f0 i hi) (f1 i hi),fun le E1 H1 g1 hle h1 pE=>?_⟩
 refine⟨_,rfl,_,rfl,_,_,rfl,rfl,_,rfl,M0,p+1,n,_,rfl,n8,hpn,by omega,t0,f0,fun lz Z H2 g2 hlz h2 pZ=>?_⟩
 have few:∀{g:Nat->Bool} {L:List Cb},Qt n (p+1) g L->L.length<=sizeLine:=fun h=>Zt (by have:=h.few n8;omega)
 refine⟨lz,rfl,⟨_,zX.of h2⟩,?_⟩
 refine zdF cbV (fun q=>!E1.contains q) (zX.of h2) (few pZ) (fun x H' Q0 h=>⟨_,rfl,h⟩) (fun x H' Q0 hx g hQ=>?_) (fun H3 lz' g3 hlz'=>?_)
 ·refine⟨_,rfl,_,rfl,le,_,rfl,.inl (zX.of ((g2.trans g) _ _ h1)),rfl,zfR E1,_,rfl,?_⟩
  have y:=hQ _ g
  rw[<-zh2] at y
  exact y
 generalize eZ:(Z.filter fun q=>!E1.contains q)=Z'
 have gz:=g3.trans (Same.new hlz' (.lst (Z'.map cbV)))
 have hz':upd H3 lz' (.lst (Z'.map cbV)) lz'=some _:=zj
 generalize upd H3 lz' _=H4 at gz hz' ⊢
 refine⟨_,rfl,_,rfl,_,_,rfl,rfl,_,rfl,M1,p+1,n,_,rfl,n8,hpn,by omega,t1,f1,fun lo O H5 g5 hlo h5 pO=>?_⟩
 have h15:=(g2.trans (gz.trans g5)) _ _ h1
 refine⟨lo,rfl,⟨_,zX.of h5⟩,?_⟩
 refine zdF cbV (fun q=>!E1.contains q) (zX.of h5) (few pO) (fun x H' Q0 h=>⟨_,rfl,h⟩) (fun x H' Q0 hx g hQ=>?_) (fun H6 lo' g6 hlo'=>?_)
 ·refine⟨_,rfl,_,rfl,le,_,rfl,.inl (zX.of (g _ _ h15)),rfl,zfR E1,_,rfl,?_⟩
  have y:=hQ _ g
  rw[<-zh2] at y
  exact y
 generalize eO:(O.filter fun q=>!E1.contains q)=O'
 have go:=g6.trans (Same.new hlo' (.lst (O'.map cbV)))
 have ho':upd H6 lo' (.lst (O'.map cbV)) lo'=some _:=zj
 generalize upd H6 lo' _=H7 at go ho' ⊢
 have hz7:=(g5.trans go) _ _ hz'
 have hE7:=go _ _ h15
 have gA:Same H H7:=g1.trans (g2.trans (gz.trans (g5.trans go)))
 have PF:=Qt.step hpn ff n1 pE pZ pO
 rw[eZ,eO] at PF
 have lE:=few pE
 have LL:=PF.few n8
 rw[zrA,zrA,zrs,zrs,zrs] at LL
 have sz:∀{q:Cb} {y:Str} {L:List Cb} {g:Nat->Bool},Qt n (p+1) g L->q∈L->y.length<=1->y.length+(cbS q).length<=sizeLine:=fun {q y L g} h m hy=>by
  have:=((h.mem q).mp m).1
  rw[uz]
  exact Zt (by omega)
 have mZ:∀q∈Z',q∈Z:=fun q h=>by rw[<-eZ] at h;exact(List.mem_filter.mp h).1
 have mO:∀q∈O',q∈O:=fun q h=>by rw[<-eO] at h;exact(List.mem_filter.mp h).1
 refine⟨_,rfl,le,rfl,⟨_,zX.of hE7⟩,?_⟩
 refine zco cbV (fun q=>cbV (none::q)) (zX.of hE7) (Zt (by omega)) (fun x H' Q0 hx g hQ=>⟨_,rfl,_,_,rfl,rfl,sz pE hx (by decide +kernel),by rw[zcp none x dash];exact hQ _ (Same.refl _)⟩) (fun H8 l8 g8 hl8=>?_)
 have k8:=Same.new hl8 (.lst (E1.map fun q=>cbV (none::q)))
 have hz8:=(g8.trans k8) _ _ hz7
 refine⟨_,rfl,lz',rfl,⟨_,zX.of hz8⟩,?_⟩
 refine zco cbV (fun q=>cbV (some false::q)) (zX.of hz8) (Zt (by omega)) (fun x H' Q0 hx g hQ=>⟨_,rfl,_,_,rfl,rfl,sz pZ (mZ x hx) (by decide +kernel),by rw[zcp (some false) x nought];exact hQ _ (Same.refl _)⟩) (fun H9 l9 g9 hl9=>?_)
 have k9:=Same.new hl9 (.lst (Z'.map fun q=>cbV (some false::q)))
 refine⟨l8,l9,_,_,rfl,rfl,zX.of ((g9.trans k9) _ _ zj),zX.of zj,?_,fun la hla=>?_⟩
 ·rw[zrs,zrs]
  exact Zt (by omega)
 have ka:=Same.new hla (.lst ((E1.map fun q=>cbV (none::q))++Z'.map fun q=>cbV (some false::q)))
 have ho8:=(((g8.trans k8).trans (g9.trans k9)).trans ka) _ _ ho'
 refine⟨_,rfl,lo',rfl,⟨_,zX.of ho8⟩,?_⟩
 refine zco cbV (fun q=>cbV (some true::q)) (zX.of ho8) (Zt (by omega)) (fun x H' Q0 hx g hQ=>⟨_,rfl,_,_,rfl,rfl,sz pO (mO x hx) (by decide +kernel),by rw[zcp (some true) x zol];exact hQ _ (Same.refl _)⟩) (fun Hb lb gb hlb=>?_)
 have kb:=Same.new hlb (.lst (O'.map fun q=>cbV (some true::q)))
 refine⟨la,lb,_,_,rfl,rfl,zX.of ((gb.trans kb) _ _ zj),zX.of zj,?_,fun lc hlc=>?_⟩
 ·rw[zrA,zrs,zrs,zrs]
  exact Zt (by omega)
 have gg:=gA.trans ((((g8.trans k8).trans (g9.trans k9)).trans ka).trans (gb.trans kb))
 refine q lc _ _ (gg.trans (Same.new hlc _)) (gg.free hlc) ?_ PF
 rw[zj,zrG,zrG,zr4,zr4,zr4]
 rfl
theorem T9 (T:Txt P w K mg a)(z9:zA P w K mg base zU k a.wj a.wk xJ wR)(yt:zA P w K mg base zU k a.uG a.uH vL Zo) :
  ∀d:Nat,zA P w K mg base zU (k+d) a.uW a.uX vM (W9 d)
 | 0=>by
  refine⟨fun vs H Q E h=>?_,fun A outer s H args us vs Q E _ _ _ _ h=>?_⟩
  ·obtain⟨N,p,n,f,rfl,_⟩:=h
   rfl
  ·obtain⟨N,p,n,f,_,_,h1,h2,_⟩:=h
   omega
 | d+1=>zap T (z9.mono (zr3 _ _)) (yt.mono (zr3 _ _)) (T9 T z9 yt d)
theorem zgF (T:Txt P w K mg a)(zT:zA P w K mg base zU k a.yg a.yh z6 (vA a.zu))(yS:zA P w K mg base zU k a.xK a.xM yP (ZW a.zu))(xU:zA P w K mg base zU k a.wH a.wI xR (vh (zW a.zu)))(uZ:zA P w K mg base zU k a.uW a.uX vM (W9 9)):zA P w K mg base zU (k+1) a.Np a.Nq Tq (PJ a.zu):=by
 refine T.zah.F.ok zgy (fun vs H Q E h=>?_) (fun cdv A outer s H vs Q E hr h=>?_)
 ·obtain⟨b,os,rs,F,k0,rfl,_⟩:=h
  rfl
 obtain⟨b,os,rs,F,k0,rfl,hB,hk,q⟩:=h
 refine⟨_,(zf (z7 (yd (pv 0) T.zR T.yp zT hr (za (pv 1) zc)))
   (zm (zF (zp uZ hr T.uY (za (yd (pv 0) T.zR T.wC yS hr (za (pv 1) zc)) (za zq (za (zO zK rfl T.wA yL (za (Y8 (pv 0) T.zR T.uO xU hr) zc)) zc))))))),?_⟩
 have L:=yW a.zu
 have o8:=(L.ord hB).le
 obtain⟨dx,ml,rl,tl,nd,rv,tbs,zll,h⟩:=id hB
 refine⟨_,rfl,b,dx,_,rfl,h.hb,rfl,_,rfl,b,os,rs,F,k0,rfl,hB,hk,?_⟩
 refine⟨_,rfl,b,dx,_,rfl,h.hb,rfl,_,rfl,b,os,rs,F,k0,rfl,hB,hk,fun N tN=>?_⟩
 obtain⟨dx2,fs,zcK,hm⟩:=L.ins hB
 refine⟨_,rfl,b,dx2,fs,rfl,zcK,hm _ (by decide +kernel),b,os,rs,F,rfl,hB,fun l1 H1 g1 fl1 hl1=>?_⟩
 refine⟨l1,_,rfl,.inl (zX.of hl1),?_⟩
 rw[zrs]
 exact⟨N,0,os.length,_,rfl,o8,zrP _,by omega,tN,fun i hi=>absurd hi (Nat.not_lt_zero _),fun l qs H2 g2 hl h2 P=>q l qs H2 (g1.trans g2) (g1.free hl) h2 P⟩
theorem zaq (T:Txt P w K mg a)(Yc:zA P w K mg base zU k a.Z5 a.Z6 Za ZX):zA P w K mg base zU (k+1) a.WQ a.WR Yn (zcq K):=by
 refine T.WX.F.ok vd (fun vs H Q E h=>?_) (fun cdv A outer s H vs Q E hr h=>?_)
 ·obtain⟨l,n,Ns,fs,rfl,_⟩:=h
  rfl
 obtain⟨l,n,Ns,fs,rfl,hl,hp,q⟩:=h
 refine⟨_,(zf (zH 1 vd.nd zq)
   (zf (zH 2 vd.nd zq)
   (zf (uQ PassesOwn.never rfl (wu (pv 0)) (yU (i:=3) vd.nd rfl (Or.inl rfl)) (zf (zH 2 vd.nd (zJ Xj (pv 2) (zJ uw (pv 1) (pv 3))))
   (zm (zH 1 vd.nd (zJ Xj (pv 1) (pv 3))))))
   (zm (zF (zp Yc hr T.Vn (za (pv 1) (za (pv 2) zc)))))))),?_⟩
 refine⟨_,rfl,l,rfl,⟨_,hl⟩,?_⟩
 have lf:=Zg hp
 refine Zd (xs:=Ns.map fun N=>V.int (N:Nat)) (fun i σ H'=>∃(S A:Nat) (f3:Option V),H'=H/\zN n S (fun b=>decide (1<=zaI (fs.take i) b))/\zN n A (fun b=>decide (2<=zaI (fs.take i) b))/\σ=[some (.ref l),some (.int (S:Nat)),some (.int (A:Nat)),f3]) ⟨0,0,_,rfl,?_,?_,rfl⟩ (fun i σ H' _ ⟨_,_,_,e,_⟩=>by rw[e];exact hl) ?_ ?_
 ·exact yE (vH n) fun b _=>rfl
 ·exact yE (vH n) fun b _=>rfl
 ·rintro i x σ H' hx ⟨S,A,f3,rfl,tS,tA,rfl⟩
  rw[zru] at hx
  cases hN:Ns[i]? with
  | none=>rw[hN] at hx;cases hx
  | some N =>
   rw[hN] at hx
   cases hx
   obtain⟨f,hf,tN⟩:=zfu hp hN
   refine⟨_,rfl,_,rfl,_,rfl,S,N,rfl,rfl,A,_,rfl,rfl,?_⟩
   refine⟨_,rfl,_,rfl,S,N,rfl,rfl,S|||N,A|||(S&&&N),_,rfl,yE (Wt tS tN) fun b _=>?_,yE (Wt tA (ur tS tN)) fun b _=>?_,rfl⟩
   ·rw[zZ hf,zby]
    cases f b
    ·rw[Bool.or_false];rfl
    ·rw[Bool.or_true];exact(decide_eq_true (Nat.le_add_left 1 _)).symm
   ·rw[zZ hf,zby]
    cases f b
    ·rw[Bool.and_false,Bool.or_false];rfl
    ·rw[Bool.and_true]
     rw[zr8,Bool.or_eq_true,decide_eq_true_iff,decide_eq_true_iff,decide_eq_true_iff]
     show _↔2<=_+1
     omega
 ·rintro σ H' ⟨S,A,f3,rfl,tS,tA,rfl⟩
  rw[zrs,lf,zrV] at tS tA
  refine⟨_,rfl,_,rfl,S,A,n,_,_,rfl,tS,tA,fun R tR=>q R (yE tR fun b _=>?_)⟩
  rw[zr8,zrU,Bool.not_eq_true',decide_eq_true_iff,decide_eq_false_iff_not,decide_eq_true_iff]
  omega
theorem zic (T:Txt P w K mg a)(zar:zA P w K mg base zU k a.Np a.Nq Tq (PJ a.zu))(Yd:zA P w K mg base zU k a.Xe a.Xf Z4 W8)(Rz:zA P w K mg base zU k a.WQ a.WR Yn (zcq K))(zd4:zA P w K mg base zU k a.Tt a.Tv X6 RW)(xU:zA P w K mg base zU k a.wH a.wI xR (vh (zW a.zu))):zA P w K mg base zU (k+1) a.zcA a.zcB Je (zct a.zu):=by
 refine T.zfT.F.ok Tr (fun vs H Q E h=>?_) (fun cdv A outer s H vs Q E hr h=>?_)
 ·obtain⟨b,os,rs,F,k0,rfl,_⟩:=h
  rfl
 obtain⟨b,os,rs,F,k0,rfl,hB,hk,q⟩:=h
 refine⟨_,(zf (zH 2 Tr.nd zdk)
   (zf (uQ PassesOwn.never rfl (wu (zp zar hr T.zah (za (pv 0) (za (pv 1) zc)))) (yU (i:=3) Tr.nd rfl (Or.inl rfl)) (zm (zb7 (Jv hr) (pv 2) (pv 3) (zp Yd hr T.Vp (za (pv 3) zc)) rfl)))
   (zf (uQ PassesOwn.never rfl (wu (tX (U4 rfl) rfl T.T7 Vy (za (pv 2) zc))) (yU (i:=3) Tr.nd rfl (Or.inl rfl)) (zm (yC (zL xr (zJ uw (zfD (Jv hr) (pv 2) (pv 3) (fun _ _=>rfl)) (zp Rz hr T.WX (za (Kc rfl rfl T.T7 (pv 2)) zc))) zq (zQ _)) (zm (z7 (ZQ PySem.F.plainAttrs_dict PySem.F.slot_dict_pop PySem.F.type_dict_pop zjB (pv 2) (za (pv 3) zc)))) z8)))
   (zf (RB (i:=4) Tr.nd rfl (Or.inr rfl) (zp Rz hr T.WX (za (Kc rfl rfl T.T7 (pv 2)) zc)))
   (zm (zF (uT (za (tX (U4 rfl) rfl T.T7 Vy (za (pv 2) zc)) (za (tK (vX:=zx zcz) (js:=[4,0]) rfl (by show Yt _ _ "table" ["own", "book"];exact lco (by decide +kernel)) rfl (zjC (pv 2)) (by show ∀j∈([4,0]:List Nat),j<5;decide) (fun cl C s₂ H₂ fp=>(zp zd4 hr T.Kq (za (zJ uw (pv 0) (pv 1)) (za (zO (zaF (K:=K) rfl) rfl T.wA yL (za (Y8 (pv 2) T.zR T.uO xU hr) zc)) zc))))) zc))))))))),?_⟩
 have L:=yW a.zu
 have o8:=(L.ord hB).le
 obtain⟨T0,hT⟩:∃T0:Cb->Nat,∀c,zN os.length (T0 c) (YG c):=⟨fun c=>(zh6 os.length (YG c)).choose,fun c=>(zh6 os.length (YG c)).choose_spec⟩
 refine fun d hd=>?_
 have gd:=Same.new hd (.dK [])
 refine⟨_,rfl,_,rfl,b,os,rs,F,k0,rfl,L.same hB gd,hk,fun pl qs H1 g1 hpl h1 PP=>?_⟩
 have lq:=PP.few o8
 have mq:∀c∈qs,c.length=os.length:=fun c hc=>((PP.mem c).mp hc).1
 have ndp:d≠pl:=zy zj hpl
 refine⟨pl,rfl,⟨_,zX.of h1⟩,?_⟩
 refine Zd (xs:=qs.map cbV) (fun i σ H'=>∃f3 f4,Same H H'/\H' pl=some (.lst (qs.map cbV))/\H' d=some (.dK ((qs.take i).map (kvT T0)))/\σ=[some (.ref b),some (.int (k0:Nat)),some (.ref d),f3,f4]) ⟨_,_,gd.trans g1,h1,g1 _ _ zj,rfl⟩ (fun i σ H' _ ⟨_,_,_,h,_⟩=>zX.of h) ?_ ?_
 ·rintro i x σ H2 hx ⟨f3,f4,g,hp,hd',rfl⟩
  rw[zru] at hx
  cases hc:qs[i]? with
  | none=>rw[hc] at hx;cases hx
  | some c =>
   rw[hc] at hx
   cases hx
   have lc:=mq c (zrx hc)
   refine⟨_,rfl,c,rfl,by omega,fun R H3 g3 tR=>?_⟩
   rw[lc] at tR
   obtain rfl:R=T0 c:=yF.Yj tR (hT c) fun _ _=>rfl
   refine⟨_,rfl,_,rfl,d,_,rfl,zeD.k (k:=.inr (cbS c)) (g3 _ _ hd') ?_,?_⟩
   ·rw[zrs,zrQ]
    exact zrB (show _<10000 by omega) (by decide)
   refine⟨_,_,(g.trans g3).over hd _,by rw[zB (Ne.symm ndp)];exact g3 _ _ hp,?_,rfl⟩
   rw[zj,zZ hc,zrG]
   have no:c∉qs.take i:=fun hm=>by
    obtain⟨hi,rfl⟩:=zrv.mp hc
    obtain⟨j,hj,ej⟩:=zr9 hm
    rw[zrQ] at hj
    rw[List.getElem_take] at ej
    have:=(List.pairwise_iff_getElem.mp PP.nd) j i (by omega) hi (by omega)
    exact this ej
   rw[zdg _ (zdG no)]
   rfl
 rintro σ H2 ⟨f3,f4,g2,_,hd2,rfl⟩
 rw[zrs,zrV] at hd2
 refine⟨_,rfl,d,_,rfl,hd2,fun ll hll=>?_⟩
 have el:(qs.map (kvT T0)).map (fun e=>kV e.1)=qs.map cbV:=by rw[zr4];rfl
 rw[el]
 have gl:=g2.trans (Same.new hll (.lst (qs.map cbV)))
 have ndl:d≠ll:=zy hd2 hll
 have hdl:upd H2 ll (.lst (qs.map cbV)) d=some (.dK (qs.map (kvT T0))):=(Same.new hll _) _ _ hd2
 have hll':upd H2 ll (.lst (qs.map cbV)) ll=some _:=zj
 generalize upd H2 ll _=H3 at gl hdl hll' ⊢
 refine⟨ll,rfl,⟨_,zX.of hll'⟩,?_⟩
 have ev:∀ks:List Cb,(ks.map (kvT T0)).map (·.2)=(ks.map T0).map fun N=>V.int (N:Nat):=fun ks=>by rw[zr4,zr4];rfl
 have pv:∀ks:List Cb,Paired (zN os.length) (ks.map T0) (ks.map YG):=fun ks=>by
  induction ks with
  | nil=>exact .nil
  | cons c ks ih=>exact .cons (hT c) ih
 refine Zd (xs:=qs.map cbV) (fun i σ H'=>∃ks f3 f4,Same H H'/\H' ll=some (.lst (qs.map cbV))/\H' d=some (.dK (ks.map (kvT T0)))/\Whi os.length (tB rs k0) qs i ks/\σ=[some (.ref b),some (.int (k0:Nat)),some (.ref d),f3,f4]) ⟨qs,_,_,gl,hll',hdl,Whi.start PP,rfl⟩ (fun i σ H' _ ⟨_,_,_,_,h,_⟩=>zX.of h) ?_ ?_
 ·rintro i x σ H4 hx ⟨ks,f3,f4,g,hl',hd',wh,rfl⟩
  rw[zru] at hx
  cases hc:qs[i]? with
  | none=>rw[hc] at hx;cases hx
  | some c =>
   rw[hc] at hx
   cases hx
   have mc:=wh.has hc
   have get:=KH.k (k:=.inr (cbS c)) hd'
   rw[zcs mc] at get
   refine⟨_,rfl,_,rfl,d,_,rfl,get,_,rfl,d,_,rfl,hd',fun lv hlv=>?_⟩
   rw[ev ks]
   have gv:=Same.new hlv (.lst ((ks.map T0).map fun N=>V.int (N:Nat)))
   have hlv':upd H4 lv (.lst ((ks.map T0).map fun N=>V.int (N:Nat))) lv=some _:=zj
   generalize upd H4 lv _=H5 at gv hlv' ⊢
   refine⟨lv,os.length,ks.map T0,ks.map YG,rfl,zX.of hlv',pv ks,fun R tR=>⟨T0 c,R,rfl,rfl,rfl,_,rfl,yu (fun e=>?_) (fun e=>?_)⟩⟩
   ·have e0:T0 c&&&R=0:=by
     have:=of_decide_eq_true e
     injection this with this
     exact Int.ofNat.inj this
    have no:∀b,b<2^os.length->¬Own ks c b:=fun b' hb o=>by
     have y:=yF.Zn (ur (hT c) tR) hb
     rw[e0,Nat.zero_testBit,o.1,decide_eq_true ((own_one (wh.nd PP) mc o.1).mpr o)] at y
     cases y
    refine⟨_,rfl,.inr (.inr (.inl ⟨rfl,.inl ⟨_,gv _ _ hd'⟩⟩)),_,rfl,d,_,.inr (cbS c),_,rfl,rfl,gv _ _ hd',zcs mc,?_⟩
    rw[zh7]
    exact⟨_,_,_,(g.trans gv).over hd _,by rw[zB (Ne.symm ndl)];exact gv _ _ hl',zj,wh.gone PP hc no,rfl⟩
   ·have e0:T0 c&&&R≠0:=fun z=>e (decide_eq_true (by show V.int ((T0 c&&&R:Nat):Int)=V.int 0;rw[z];rfl))
    have yes:∃b,b<2^os.length/\Own ks c b:=by
     refine Classical.byContradiction fun z=>e0 (yF.Yj (ur (hT c) tR) (vH os.length) fun b' hb=>?_)
     cases h1:YG c b' with
     | false=>rfl
     | true =>
      rw[Bool.true_and]
      refine decide_eq_false fun h2=>z ⟨b',hb,(own_one (wh.nd PP) mc h1).mp h2⟩
    exact⟨_,_,_,g.trans gv,gv _ _ hl',gv _ _ hd',wh.stay hc yes,rfl⟩
 rintro σ H4 ⟨ks,f3,f4,g,hl',hd',wh,rfl⟩
 rw[zrs] at wh
 have nd:=wh.nd PP
 have lk:ks.length<=2187:=zrO wh.sub.length_le lq
 refine⟨_,rfl,d,_,rfl,hd',fun lv hlv=>?_⟩
 rw[ev ks]
 have gv:=Same.new hlv (.lst ((ks.map T0).map fun N=>V.int (N:Nat)))
 have hlv':upd H4 lv (.lst ((ks.map T0).map fun N=>V.int (N:Nat))) lv=some _:=zj
 generalize upd H4 lv _=H5 at gv hlv' ⊢
 refine⟨lv,os.length,ks.map T0,ks.map YG,rfl,zX.of hlv',pv ks,fun R tR=>?_⟩
 have hd5:=gv _ _ hd'
 have g5:=g.trans gv
 refine⟨_,rfl,d,_,rfl,hd5,fun cl hcl=>?_⟩
 have ek:(ks.map (kvT T0)).map (fun e=>kV e.1)=ks.map cbV:=by rw[zr4];rfl
 rw[ek]
 have gc:=Same.new hcl (.lst (ks.map cbV))
 have hcl':upd H5 cl (.lst (ks.map cbV)) cl=some _:=zj
 have fcl:=g5.free hcl
 have ndc:d≠cl:=zy hd5 hcl
 generalize upd H5 cl _=H6 at gc hcl' ⊢
 refine⟨_,rfl,d,_,rfl,gc _ _ hd5,fun o=>?_⟩
 have gG:=(g5.trans gc).over hd (.Ji o (.dK (ks.map (kvT T0))))
 have hG:upd H6 d (.Ji o (.dK (ks.map (kvT T0)))) d=some _:=zj
 have cG:upd H6 d (.Ji o (.dK (ks.map (kvT T0)))) cl=some (.lst (ks.map cbV)):=by rw[zB (Ne.symm ndc)];exact hcl'
 generalize upd H6 d (.Ji o (.dK (ks.map (kvT T0))))=G at gG hG cG ⊢
 have lm:(ks.map (kvT T0)).length=ks.length:=zrs _
 refine zjD (fun i ys H'=>Same G H'/\∃ps rows,ys=ps.map V.ref/\rows.length=i/\Paired (fun p r=>G p=none/\H' p=some (.lst (Uo r))) ps rows/\ps.Nodup/\∀(j:Nat) c r,ks[j]?=some c->rows[j]?=some r->r.length=os.length/\Own ks c (vU r)) ⟨Same.refl _,[],[],rfl,rfl,.nil,.nil,fun j c r _ e=>by cases e⟩ (by rw[lm];exact Zt (by omega)) ?_ ?_ ?_
 ·rintro i ys H' hi ⟨g',ps,rows,rfl,e,pp,_⟩
  exact⟨g' _ _ hG,by rw[zrs,Zg pp,e];exact zrI _⟩
 ·rintro i p ys H' Q0 hp ⟨g',ps,rows,rfl,e,pp,np,ow⟩ hn
  rw[zru] at hp
  cases hc:ks[i]? with
  | none=>rw[hc] at hp;cases hp
  | some c =>
   rw[hc] at hp
   cases hp
   have hB':=L.same hB (gG.trans g')
   obtain⟨dx2,fs2,zcK,hm⟩:=L.ins hB'
   have an:yF.anyB os.length (fun b=>YG c b&&decide (zaI (ks.map YG) b=1))=true:=by
    obtain⟨b',hb,o'⟩:=wh.done c (zrx hc)
    rw[yF.anyB_iff]
    exact⟨b',hb,by rw[o'.1,decide_eq_true ((own_one nd (zrx hc) o'.1).mpr o')];rfl⟩
   refine⟨_,rfl,_,rfl,T0 c,R,rfl,rfl,_,rfl,b,dx2,fs2,rfl,zcK,hm _ (by decide +kernel),b,os,rs,F,rfl,hB',fun l1 H7 g7 fl1 hl1=>?_⟩
   refine⟨l1,_,rfl,.inl (zX.of hl1),?_⟩
   rw[zrs]
   refine⟨T0 c&&&R,os.length,_,rfl,o8,ur (hT c) tR,an,fun l2 H8 r g8 hl2 h2 hd2=>hn _ _ ⟨g'.trans (g7.trans g8),ps++[l2],rows++[r],by rw[zrG];rfl,by rw[zrA,e];rfl,?_,?_,?_⟩⟩
   ·exact Mp (Wu (fun _ _ z=>⟨z.1,(g7.trans g8) _ _ z.2⟩) pp) (.cons ⟨(g'.trans g7).free hl2,h2⟩ .nil)
   ·refine List.nodup_append.mpr ⟨np,List.pairwise_singleton _ _,fun x hx y hy=>?_⟩
    rw[List.mem_singleton.mp hy]
    obtain⟨j,hj⟩:=List.mem_iff_getElem?.mp hx
    obtain⟨r',_,_,z⟩:=zfu pp hj
    exact zy (g7 _ _ z) hl2
   ·intro j c' r' h1 h2'
    have mr:=List.mem_filter.mp (List.mem_of_head? hd2)
    rcases Nat.lt_or_ge j rows.length with z | z
    ·rw[zrZ z] at h2'
     exact ow j c' r' h1 h2'
    ·have hj:j<(rows++[r]).length:=(zrv.mp h2').1
     rw[zrA,zr0] at hj
     have ej:j=i:=by omega
     subst ej
     rw[List.getElem?_append_right z,e,Nat.sub_self] at h2'
     obtain rfl:=zrX h2'
     obtain rfl:=zrX (hc.symm.trans h1)
     have y:=mr.2
     rw[zrU] at y
     exact⟨yF.Pg _ _ mr.1,(own_one nd (zrx hc) y.1).mp (of_decide_eq_true y.2)⟩
 ·rintro ys H' rl ⟨g',ps,rows,rfl,e,pp,np,ow⟩ hrl
  have gr:=Same.new hrl (.lst (ps.map V.ref))
  refine⟨by show 2<=sizeLine;decide,fun t ht=>?_⟩
  have gt:=Same.new ht (.tup [.ref cl,.ref rl])
  have gg:=gG.trans (g'.trans gr)
  refine q t cl rl ks ps rows _ (gg.trans gt) (gg.free ht) fcl ((gG.trans g').free hrl) (zy (g' _ _ cG) hrl) zj ((g'.trans (gr.trans gt)) _ _ cG) (gt _ _ zj) (Wu (fun p r z=>⟨gG.free z.1,Ne.symm (zy cG z.1),zy z.2 hrl,(gr.trans gt) _ _ z.2⟩) pp) np ⟨fun c hc=>?_,PP.up.sublist wh.sub,wh.cov,by rw[e,lm],ow⟩ lk
  exact(PP.mem c).mp (wh.sub.subset hc)
theorem Lj (T:Txt P w K mg a)(uo:zA P w K mg base zU k a.uf a.ug wY (Xl a.zu)):zA P w K mg base zU (k+1) a.YC a.YD tD (Td a.zu K):=by
 refine T.Uk.F.ok Vc (fun vs H Q E h=>?_) (fun cdv A outer s H vs Q E hr h=>?_)
 ·obtain⟨b,l,os,rs,F,qs,rfl,_⟩:=h
  rfl
 obtain⟨b,l,os,rs,F,qs,rfl,hB,hl,hq,q⟩:=h
 refine⟨_,(zm (uQ PassesOwn.never rfl (wu (pv 1)) (yU (i:=2) Vc.nd rfl (Or.inl rfl)) (zm (z7 (zp uo hr T.ZJ (za (pv 0) (za (pv 2) zc))))))),?_⟩
 refine⟨_,rfl,l,rfl,⟨_,hl⟩,?_⟩
 refine Zd (xs:=qs.map fun q=>V.str (cbS q)) (fun i σ H'=>∃f2,Same H H'/\σ=[some (.ref b),some (.ref l),f2]) ⟨_,Same.refl _,rfl⟩ (fun i σ H' _ ⟨_,g,_⟩=>g.seq hl) ?_ ?_
 ·rintro i x σ H' hx ⟨f2,g,rfl⟩
  obtain⟨c,hc,rfl⟩:=List.mem_map.mp (zrx hx)
  exact⟨_,rfl,_,rfl,b,os,rs,F,c,rfl,(yW a.zu).same hB g,hq c hc,fun H2 g2=>⟨_,g.trans g2,rfl⟩⟩
 ·rintro σ H' ⟨f2,g,rfl⟩
  exact q _ g
theorem zd5 (T:Txt P w K mg a)(zT:zA P w K mg base zU k a.yg a.yh z6 (vA a.zu))(K6:zA P w K mg base zU k a.YC a.YD tD (Td a.zu K))(Yd:zA P w K mg base zU k a.Xe a.Xf Z4 W8)(yS:zA P w K mg base zU k a.xK a.xM yP (ZW a.zu)):zA P w K mg base zU (k+1) a.Qj a.Qk VR (MK a.zu K):=by
 refine T.zai.F.ok Wh (fun vs H Q E h=>?_) (fun cdv A outer s H vs Q E hr h=>?_)
 ·obtain⟨b,l,os,rs,F,k0,qs,rfl,_⟩:=h
  rfl
 obtain⟨b,l,os,rs,F,k0,qs,rfl,hB,hk,hl,hq,q⟩:=h
 refine⟨_,(zf (z7 (yd (pv 0) T.zR T.yp zT hr (za (pv 1) zc)))
   (zf (z7 (zp K6 hr T.Uk (za (pv 0) (za (pv 2) zc))))
   (zf (zH 3 Wh.nd zq)
   (zf (uQ PassesOwn.never rfl (wu (pv 2)) (yU (i:=4) Wh.nd rfl (Or.inl rfl)) (zm (zH 3 Wh.nd (zJ Xj (pv 3) (zp Yd hr T.Vp (za (pv 4) zc))))))
   (zm (zF (YK xr (pv 3) (yd (pv 0) T.zR T.wC yS hr (za (pv 1) zc)) (zQ _)))))))),?_⟩
 have L:=yW a.zu
 have o8:=(L.ord hB).le
 obtain⟨dx,ml,rl,tl,nd,rv,tbs,zll,h⟩:=id hB
 refine⟨_,rfl,b,dx,_,rfl,h.hb,rfl,_,rfl,b,os,rs,F,k0,rfl,hB,hk,?_⟩
 refine⟨_,rfl,_,rfl,b,l,os,rs,F,qs,rfl,hB,hl,hq,fun H1 g1=>?_⟩
 refine⟨_,rfl,l,rfl,⟨_,g1.seq hl⟩,?_⟩
 refine Zd (xs:=qs.map fun q=>V.str (cbS q)) (fun i σ H'=>∃(N:Nat) (f4:Option V),Same H H'/\zN os.length N (fun b=>(qs.take i).any fun c=>YG c b)/\σ=[some (.ref b),some (.int (k0:Nat)),some (.ref l),some (.int (N:Nat)),f4]) ⟨0,_,g1,vH _,rfl⟩ (fun i σ H' _ ⟨_,_,g,_⟩=>g.seq hl) ?_ ?_
 ·rintro i x σ H' hx ⟨N,f4,g,tN,rfl⟩
  rw[zru] at hx
  cases hc:qs[i]? with
  | none=>rw[hc] at hx;cases hx
  | some c =>
   rw[hc] at hx
   cases hx
   have lc:=hq c (zrx hc)
   refine⟨_,rfl,_,rfl,c,rfl,by omega,fun R H2 g2 tR=>⟨N,R,rfl,rfl,_,_,g.trans g2,?_,rfl⟩⟩
   rw[lc] at tR
   refine yE (Wt tN tR) fun b _=>?_
   rw[zZ hc,List.any_append,List.any_cons,List.any_nil,Bool.or_false]
 ·rintro σ H' ⟨N,f4,g,tN,rfl⟩
  rw[zrs,zrV] at tN
  have hB':=L.same hB g
  obtain⟨dx2,ml2,rl2,tl2,Qu,rv2,zqP,zlk,h2⟩:=id hB'
  refine⟨_,rfl,_,rfl,b,dx2,_,rfl,h2.hb,rfl,_,rfl,b,os,rs,F,k0,rfl,hB',hk,fun M tM=>⟨rfl,?_⟩⟩
  have e:decide (V.int (N:Int)=V.int (M:Int))=zjF os.length (tB rs k0) qs:=by
   rw[zr8,decide_eq_true_iff,zh8]
   constructor
   ·intro z b' hb
    injection z with z
    have z:N=M:=Int.ofNat.inj z
    subst z
    rw[<-yF.Zn tN hb]
    exact yF.Zn tM hb
   ·intro z
    rw[yF.Yj tN tM z]
  rw[e]
  exact q _ g
theorem zd6 (T:Txt P w K mg a)(xg:zA P w K mg base zU k a.uK a.uL vD (Mj)):zA P w K mg base zU (k+1) a.V7 a.V8 Y0 MF:=by
 refine T.Nt.F.ok zaN (fun vs H Q E h=>?_) (fun cdv A outer s H vs Q E hr h=>?_)
 ·obtain⟨c,n,rfl,_⟩:=h
  rfl
 obtain⟨c,n,rfl,n8,q⟩:=h
 refine⟨_,(zm (zF (ZQ PySem.F.plainAttrs_str PySem.F.slot_str_join PySem.F.type_str_join zhY yM (za (tK (vX:=zx V0) (js:=[0]) rfl (by show Yt _ _ "k" ["cell"];exact lco (by decide +kernel)) rfl (Y6 rfl T.Y5 (za (pv 1) zc)) (by show ∀j∈([0]:List Nat),j<2;decide) (fun cl C s₂ H₂ fp=>(yj zew yM (zp xg hr T.xT (za (pv 1) (za (pv 0) (za zq zc)))) (fun _ _=>rfl)))) zc)))),?_⟩
 refine⟨rfl,_,rfl,(n:Int),rfl,by omega,by omega,?_⟩
 rw[zr5]
 refine zjn (n:=n) (fun i ys H'=>Same H H'/\∃qs:Cb,ys=qs.map (fun s=>V.str (cbS [s]))/\qs.length=i) ⟨Same.refl _,[],rfl,rfl⟩ (zrL (zY (by omega))) ?_ ?_ ?_
 ·rintro i ys H' _ ⟨_,zs,rfl,e⟩
  rw[zrs,e];exact zrI _
 ·rintro i ys H' Q0 hi ⟨g,zs,rfl,e⟩ hn
  refine⟨_,rfl,_,rfl,c,0+i,3,?_,by omega,by decide,by decide,fun r r0 r1=>?_⟩
  ·show [V.int c,V.int ((0:Int)+(i:Int)),V.int 3]=_
   rw[Int.zero_add,Nat.zero_add]
  have:∃s:Option Bool,atI (Str.ofString "01-").cps.toList r=some (SN s):=by
   have r3:r=0\/r=1\/r=2:=by omega
   rcases r3 with rfl | rfl | rfl
   ·exact⟨some false,by decide +kernel⟩
   ·exact⟨some true,by decide +kernel⟩
   ·exact⟨none,by decide +kernel⟩
  obtain⟨s0,hs⟩:=this
  exact⟨_,_,_,rfl,rfl,by decide +kernel,hs,hn _ _ ⟨g,zs++[s0],by rw[zrG];rfl,by rw[zrA,e];rfl⟩⟩
 ·rintro ys H' p ⟨g,zs,rfl,e⟩ hp
  exact⟨p,zs,rfl,rfl,zX.of zj,by omega,q zs _ (g.trans (Same.new hp _)) e⟩
inductive zkf (C:Addr)(K:Frag)(sc:Addr)(ns:List Int)(σ:St)(H:Hp):Prop
 | mk (B1:Hp) (ol p1 bk kl:Addr) (os:List Str) (rs:List yF.Rm) (F:xu) (k0 k1:Nat) (s1 s2:Sn) (ys:List V) (q:Cb) (f8:Option V) (_:B1 ol=some (.lst (os.map V.str))) (_:QS os) (_:Ra B1 s1 p1) (_:s1.QK os) (_:s1.depth<=7) (_:B1 kl=some (.lst ys)) (_:Xk os B1 rs ys) (_:ys.length=rs.length) (_:Led (zW C) B1 bk os 200 H rs F) (_:yF.Means rs k0 (fun r=>s1.val (zhv os r))) (_:yF.Means rs k1 (fun r=>s2.val (zhv os r))) (_:q.length=os.length) (_:σ=[some (.ref sc),some (.ref ol),some (.ref p1),some (.ref bk),some (.int (k0:Nat)),some (.int (k1:Nat)),some (.ref kl),some (cbV q),f8]):zkf C K sc ns σ H
inductive zlo (C:Addr)(B1:Hp)(sc ol p1 bk kl:Addr)(os:List Str)(rs0:List yF.Rm)(k0 k1:Nat)(s1 s2:Sn)(q:Cb)(m:Nat)(σ:St)(H:Hp):Prop
 | mk (rs:List yF.Rm) (F:xu) (f8:Option V) (_:Led (zW C) B1 bk os m H rs F) (_:yF.wN rs0 rs) (_:yF.Means rs k0 (fun r=>s1.val (zhv os r))) (_:yF.Means rs k1 (fun r=>s2.val (zhv os r))) (_:σ=[some (.ref sc),some (.ref ol),some (.ref p1),some (.ref bk),some (.int (k0:Nat)),some (.int (k1:Nat)),some (.ref kl),some (cbV q),f8]):zlo C B1 sc ol p1 bk kl os rs0 k0 k1 s1 s2 q m σ H
theorem ok_law (T:Txt P w K mg a)
  (yR:zA P w K mg base zU (k+1) a.xO a.xP yQ (Jc K))
  (zaY:zA P w K mg base zU (k+1) a.WT a.WW Yo zbZ)
  (Vs:zA P w K mg base zU (k+1) a.Z7 a.Z8 uF (RM K))
  (zcQ:zA P w K mg base zU (k+1) a.V7 a.V8 Y0 MF)
  (zd7:zA P w K mg base zU k a.Wi a.TQ Wd (RT (zW a.zu) K a.zu))
  (Uc:zA P w K mg base zU (k+1) a.V3 a.V4 YX (JR a.zu))
  (zd8:zA P w K mg base zU (k+1) a.Wj a.Wk Yw (VJ (zW a.zu)))
  (xU:zA P w K mg base zU (k+1) a.wH a.wI xR (vh (zW a.zu)))
  (KC:zA P w K mg base zU (k+1) a.TV a.TX Wf (RV (zW a.zu)))
  (zar:zA P w K mg base zU (k+1) a.Np a.Nq Tq (PJ a.zu))
  (zjO:zA P w K mg base zU (k+1) a.zcA a.zcB Je (zct a.zu))
  (zd9:zA P w K mg base zU (k+1) a.TY a.T3 Wg (R6 a.zu))
  (zjP:zA P w K mg base zU (k+1) a.zcC a.zcD Jf (J9 a.zu))
  (ze9:zA P w K mg base zU (k+1) a.Qj a.Qk VR (MK a.zu K))
  (Wr:zA P w K mg base zU (k+1) a.Wm a.Wn Yx (Py a.zu))
  (zfa:zA P w K mg base zU (k+1) a.Qh a.Qi VP (Mz a.zu)) :
  zA P w K mg base zU (k+2) a.a_law a.d_law p_law (zfy K):=by
 refine T.f_law.F.ok sc_law (fun vs H Q E h=>?_) (fun cdv A outer s H vs Q E hr h=>?_)
 ·obtain⟨a,ns,rfl,_⟩:=h
  rfl
 obtain⟨sc,ns,rfl,hS,h63,q9⟩:=h
 have L:=yW a.zu
 refine zn3 ?_
 refine zn2 (zkf a.zu K sc ns) (fun t z=>(zf (zH 1 sc_law.nd (zp zaY hr T.Ry (za (zp yR hr T.yG (za (pv 0) (za zq zc))) (za (yj yw (vY (za zq (za zq zc))) (tX zf5 rfl T.zkd zhe (za (YK xr (zJ Ze (zp yR hr T.yG (za (pv 0) (za zq zc))) zq) zq (zQ _)) zc)) (fun _ _=>rfl)) zc))))
   (zf (zH 2 sc_law.nd (zp Vs hr T.Z9 (za (pv 0) (za zq (za (zJ xY zq (zJ Ze (zp yR hr T.yG (za (pv 0) (za zq zc))) zq)) (za (pv 1) zc))))))
   (zf (RB (i:=3) sc_law.nd rfl (Or.inr rfl) (ziw T.zjG zd7 hr rfl T.zlh T.Kv.b .nil zfo (za (tX Vv rfl T.T7 Vy (za (pv 1) zc)) zc)))
   (zf (zH 4 sc_law.nd (yd (pv 3) T.zR T.Y4 Uc hr (za (pv 2) zc)))
   (zf (zH 5 sc_law.nd (yd (pv 3) T.zR T.Y4 Uc hr (za (zp Vs hr T.Z9 (za (pv 0) (za zq (za (zJ xY zq (zJ Ze (zp yR hr T.yG (za (pv 0) (za zq zc))) zq)) (za (pv 1) zc))))) zc)))
   (zf (Uy (tt:=Vx) (i:=6) sc_law.nd rfl (Or.inl rfl) (.inl rfl) (vX:=zx S_law) (js:=[3]) rfl (by show Yt _ _ "number" ["book"];exact lco (by decide +kernel)) rfl (Y6 rfl T.Y5 (za (Y8 (pv 3) T.zR T.Kw zd8 hr) zc)) (by show ∀j∈([3]:List Nat),j<9;decide) (fun cl C s₂ H₂ fp pins s' σ' H' Q I h=>wpAny_pure ⟨H',I,h⟩) (fun cl C s₂ H₂ fp=>(yd (pv 1) T.zR T.T6 KC hr (za (pv 0) zc))) rfl)
   (zf (zH 7 sc_law.nd (zp zcQ hr T.Nt (za (zp yR hr T.yG (za (pv 0) (za zq zc))) (za (zO zK rfl T.wA yL (za (pv 1) zc)) zc))))
   z)))))))) ?_ ?_
 ·rintro u hu σ H ⟨rfl,rfl⟩
  refine⟨_,rfl,sc,ns,0,rfl,hS,by show 2<=sizeLine;decide,fun l5 hl5=>?_⟩
  have g5:=Same.new hl5 (.lst [.int 5,.int 8])
  refine⟨_,rfl,sc,ns,40,rfl,g5.seq hS,_,_,rfl,rfl,(show(0:Int)<8 by decide),rfl,.inr ⟨_,rfl,l5,_,_,.int ((if (decide (V.int (vZ ns 40%8)=V.int 1)) then 8 else 5:Nat):Int),rfl,rfl,zX.of zj,?_,vZ ns 0,(if (decide (V.int (vZ ns 40%8)=V.int 1)) then 8 else 5),rfl,?_,?_,fun ol H0 os g1' zln ho o8'=>?_⟩⟩
  ·cases (decide (V.int (vZ ns 40%8)=V.int 1))<;>rfl
  ·cases (decide (V.int (vZ ns 40%8)=V.int 1))<;>decide
  ·cases (decide (V.int (vZ ns 40%8)=V.int 1))<;>decide
  have g0:=g5.trans g1'
  clear g1' o8' g5
  have o8:=ho.le
  have hS0:=g0.seq hS
  have m0:∀i,0<=vZ ns i%7:=fun i=>zsa _ (by decide)
  have m1:∀i,vZ ns i%7<7:=fun i=>zr7 _ (by decide)
  have em:∀i,(1:Int)+vZ ns i%7=(((1+vZ ns i%7).toNat:Nat):Int):=fun i=>by have:=m0 i;omega
  have cnt:∀{s:Sn},s.depth<=7->s.count+2<=200:=fun {s} h=>by
   have h3:=Sn.LQ s
   have h4:2^s.depth<=2^7:=zrY (by decide) h
   have h5:2^7=128:=rfl
   omega
  refine⟨_,rfl,_,rfl,sc,ns,1,rfl,hS0,?_⟩
  refine⟨vZ ns 1,7,rfl,rfl,(show(0:Int)<7 by decide),1,_,rfl,rfl,_,rfl,sc,ol,ns,2,(1+vZ ns 1%7).toNat,os,?_,hS0,zX.of zln,ho.pos,o8,by have:=m0 1;omega,by have:=m1 1;omega,by decide,fun p1 H1 s1 g1 is1 in1 d1=>?_⟩
  ·show [V.ref sc,V.int 2,V.int (1+vZ ns 1%7),V.ref ol]=_
   rw[em 1];rfl
  have d7:s1.depth<=7:=by have:=m1 1;omega
  have hS1:=g1.seq hS0
  have hol1:=g1 _ _ zln
  refine⟨_,rfl,ol,_,rfl,.inl (zX.of hol1),fun oc hoc=>?_⟩
  have gc:=Same.new hoc (.lst (os.map V.str))
  have hol2:=gc _ _ hol1
  have eoc:upd H1 oc (.lst (os.map V.str)) oc=some _:=zj
  have hS2:=gc.seq hS1
  have is2:=is1.mono (yH.of gc)
  generalize upd H1 oc _=H2 at gc hol2 eoc hS2 is2 ⊢
  refine fun bk dx hbk hdx hne=>⟨bk,dx,oc,os,rfl,zj,Ne.symm hne,?_,ho,fun H3 F0 keep hB hF=>⟨rfl,?_⟩⟩
  ·refine zX.of ?_
   rw[zB (zy eoc hbk),zB (zy eoc hdx)]
   exact eoc
  have L0:=RX.made hbk hdx hne keep hB hF
  clear keep hF
  have nf:∀{x o},H2 x=some o->¬F0 x:=fun {x o} e z=>by rw[L0.away x z] at e;cases e
  obtain⟨dx0,fs,zcK,hm⟩:=L.ins L0.bk
  refine⟨_,rfl,bk,dx0,fs,rfl,zcK,hm _ (by decide +kernel),_,rfl,bk,p1,os,_,F0,s1,rfl,L0.bk,by decide,is2.mono (yH.of L0.same),in1,by have:=cnt d7;omega,by omega,fun k0 rs1 H4 aw tu hB4 gr mn1 hh=>?_⟩
  have L4:=L0.rise aw hB4 hh
  have hS4:=L4.same.seq hS2
  obtain⟨dx1,fs1,zmV,hm1⟩:=L.ins L4.bk
  refine⟨_,rfl,bk,dx1,fs1,rfl,zmV,hm1 _ (by decide +kernel),_,rfl,_,rfl,sc,ns,11,rfl,hS4,?_⟩
  refine⟨vZ ns 11,7,rfl,rfl,(show(0:Int)<7 by decide),1,_,rfl,rfl,_,rfl,sc,ol,ns,12,(1+vZ ns 11%7).toNat,os,?_,hS4,zX.of (L4.same _ _ hol2),ho.pos,o8,by have:=m0 11;omega,by have:=m1 11;omega,by decide,fun p2 H5 s2 g5 is5 in2 d2=>?_⟩
  ·show [V.ref sc,V.int 12,V.int (1+vZ ns 11%7),V.ref ol]=_
   rw[em 11];rfl
  have L5:=L4.new g5
  have d8:s2.depth<=7:=by have:=m1 11;omega
  refine⟨bk,p2,os,rs1,F0,s2,rfl,L5.bk,by have:=L5.len;omega,is5,in2,by have:=cnt d8;omega,by omega,fun k1 NZ H6 aw6 tu6 hB6 gr6 mn2 hh6=>?_⟩
  have L6:=L5.rise aw6 hB6 hh6
  have mn1':=mn1.grown (L.bk L5.bk) gr6
  obtain⟨dx2,fs2,zmW,hm2⟩:=L.ins L6.bk
  refine⟨_,rfl,bk,dx2,fs2,rfl,zmW,hm2 _ (by decide +kernel),bk,os,NZ,F0,rfl,L6.bk,fun H7 g7=>?_⟩
  have L7:=L6.new g7
  have zqZ:=L7.len
  refine⟨_,rfl,Int.le_trans (by decide) (Int.natCast_nonneg _),Int.lt_of_le_of_lt (show((NZ.length:Nat):Int)<=2000000 by omega) (by decide),?_⟩
  rw[zr5]
  refine zbv (os:=os) (zrI _) (zrL (zY (by omega))) (fun i H' Q0 x hi hx g hQ=>?_) (fun ys H8 kl g8 ly ry hkl=>?_)
  ·have hB':=L.same L7.bk g
   obtain⟨dx',fs',hins',hm'⟩:=L.ins hB'
   refine⟨_,rfl,bk,dx',fs',rfl,hins',hm' _ (by decide +kernel),_,rfl,bk,os,NZ,F0,i,x,?_,hB',hx,fun v H3 g3 rv=>hQ v H3 g3 rv⟩
   show [V.ref bk,V.int (0+(i:Int))]=_
   rw[Int.zero_add]
  have L8:=L7.new g8
  have fkl:=L.fresh L8.bk hkl
  have g9:=Same.new hkl (.lst ys)
  have e9:upd H8 kl (.lst ys) kl=some _:=zj
  generalize upd H8 kl _=H9 at g9 e9 ⊢
  have L9:=L8.new g9
  have r9:=ry.mono (yH.of g9)
  refine⟨_,rfl,sc,ns,10,rfl,L9.same.seq hS2,_,rfl,ol,_,rfl,.inl (zX.of (L9.same _ _ hol2)),?_⟩
  rw[zrs]
  refine⟨_,os.length,rfl,o8,fun q Hx gx lq=>?_⟩
  have Lx:=L9.new gx
  have sx:Same H2 (zci F0 Hx):=fun x o e=>MJ (Lx.same x o e) (nf e)
  exact hu _ _ ⟨zci F0 Hx,ol,p1,bk,kl,os,NZ,F0,k0,k1,s1,s2,ys,q,_,sx _ _ hol2,ho,is2.mono (yH.of sx),in1,d7,MJ (gx _ _ e9) fkl,(r9.mono (yH.of gx)).mono (zjz Lx.bk),ly,Led.off Lx.bk (by have:=Lx.len;omega),mn1',mn2,lq,rfl⟩
 refine⟨_,(zf (uQ PassesOwn.never rfl (Y6 rfl T.Y5 (za zq zc)) (yU (i:=8) sc_law.nd rfl (Or.inl rfl)) (zf (yC (zL xr (pv 8) zq (zQ _)) (zm (z7 (zp zar hr T.zah (za (pv 3) (za (pv 4) zc))))) (zm (yC (zL xr (pv 8) zq (zQ _)) (zm (z7 (zp zjO hr T.zfT (za (pv 3) (za (pv 4) zc))))) (zm (yC (zL xr (pv 8) zq (zQ _)) (zm (z7 (zp zd9 hr T.Ku (za (pv 3) (za (pv 7) zc))))) (zm (yC (zL xr (pv 8) zq (zQ _)) (zm (z7 (zp zjP hr T.zfU (za (pv 3) (za (pv 4) (za (pv 5) zc)))))) (zm (yC (zL xr (pv 8) zq (zQ _)) (zm (z7 (zp ze9 hr T.zai (za (pv 3) (za (pv 4) (za (vY (za (pv 7) (za (pv 7) zc))) zc)))))) (zm (yC (zL xr (pv 8) zq (zQ _)) (zm (z7 (zp Wr hr T.Wq (za (pv 3) (za (pv 5) (za (pv 7) zc)))))) (zm (z7 (zp zfa hr T.zag (za (pv 3) (za (pv 5) (za (pv 7) zc)))))))))))))))))
   (zf (yC (PW.pt (Jl (zL (zhs rfl (hu8 hr)) (tK (vX:=zx S_law) (js:=[3]) rfl (by show Yt _ _ "number" ["book"];exact lco (by decide +kernel)) rfl (Y6 rfl T.Y5 (za (zO zK rfl T.wA yL (za (pv 6) zc)) zc)) (by show ∀j∈([3]:List Nat),j<9;decide) (fun cl C s₂ H₂ fp=>(yd (pv 1) T.zR T.T6 KC hr (za (pv 0) zc)))) (pv 6) (zQ _)) (N7 (zL (zhs rfl (hu8 hr)) (Y8 (pv 3) T.zR T.uO xU hr) (pv 1) (zQ _))))) (zm (zF Ri)) z8)
   (zm (yC (zL za5 (yd (pv 3) T.zR T.Y4 Uc hr (za (pv 2) zc)) (pv 4) (zQ _)) (zm (zF Ri)) z8)))))
   (zm (zF Ri))),?_⟩
 rintro σ H ⟨B1,ol,p1,bk,kl,os,rs0,F0,k0,k1,s1,s2,ys,q,f8,hol,ho,is1,in1,d7,hkl,ry,ly,Ld,mn1,mn2,lq,rfl⟩
 have l0:=Ld.len
 have cnt:s1.count+2<=200:=by
  have h3:=Sn.LQ s1
  have h4:2^s1.depth<=2^7:=zrY (by decide) d7
  have h5:2^7=128:=rfl
  omega
 refine⟨7,rfl,by decide,by decide,?_⟩
 refine W0 (lo:=0) (n:=7) (fun n=>zlo a.zu B1 sc ol p1 bk kl os rs0 k0 k1 s1 s2 q (200+3000*n)) ⟨rs0,F0,_,Ld,yF.wN.refl _,mn1,mn2,rfl⟩ ?_ ?_
 ·rintro n σ H2 hn ⟨rs1,F1,f8,L2,gr,m1,m2,rfl⟩
  have lb:=L2.len
  refine zle (zlo a.zu B1 sc ol p1 bk kl os rs0 k0 k1 s1 s2 q (200+3000*n+2000)) (fun N hN=>?_) ?_
  ·have go:∀{v:V} {H3:Hp},Same H2 H3->N [some (.ref sc),some (.ref ol),some (.ref p1),some (.ref bk),some (.int (k0:Nat)),some (.int (k1:Nat)),some (.ref kl),some (cbV q),some v] H3:=fun g3=>hN _ _ ⟨rs1,F1,_,(L2.new L g3).wide (zr3 _ _),gr,m1,m2,rfl⟩
   match n,hn with
   | 0,_=>exact⟨_,rfl,rfl,_,rfl,ifA (by decide) ⟨_,rfl,_,rfl,bk,os,rs1,F1,k0,rfl,L2.bk,m1.1,fun l qs H3 g3 _ _ _=>go g3⟩⟩
   | 1,_=>exact⟨_,rfl,rfl,_,rfl,ifB (by decide) ⟨_,rfl,rfl,_,rfl,ifA (by decide) ⟨_,rfl,_,rfl,bk,os,rs1,F1,k0,rfl,L2.bk,m1.1,fun t cl rl ks ps rows H3 g3 _ _ _ _ _ _ _ _ _ _ _=>go g3⟩⟩⟩
   | 2,_ =>
    refine⟨_,rfl,rfl,_,rfl,ifB (by decide) ⟨_,rfl,rfl,_,rfl,ifB (by decide) ⟨_,rfl,rfl,_,rfl,ifA (by decide) ⟨_,rfl,_,rfl,bk,os,rs1,F1,q,rfl,L2.bk,by omega,lq,fun k2 NZ H3 aw tu hB3 gr3 m3 hh=>?_⟩⟩⟩⟩
    exact hN _ _ ⟨NZ,F1,_,(L2.grow aw hB3 (fun x h=>.inl h) (zcj (L.bk hB3) hh)).wide (by omega),gr.trans gr3,m1.grown (L.bk L2.bk) gr3,m2.grown (L.bk L2.bk) gr3,rfl⟩
   | 3,_ =>
    refine⟨_,rfl,rfl,_,rfl,ifB (by decide) ⟨_,rfl,rfl,_,rfl,ifB (by decide) ⟨_,rfl,rfl,_,rfl,ifB (by decide) ⟨_,rfl,rfl,_,rfl,ifA (by decide) ⟨_,rfl,_,rfl,_,rfl,bk,os,rs1,F1,k0,k1,rfl,L2.bk,by omega,m1.1,m2.1,fun k2 NZ H3 aw tu hB3 gr3 hh=>?_⟩⟩⟩⟩⟩
    exact hN _ _ ⟨NZ,F1,_,(L2.grow aw hB3 (fun x h=>.inl h) (zcj (L.bk hB3) hh)).wide (by omega),gr.trans gr3,m1.grown (L.bk L2.bk) gr3,m2.grown (L.bk L2.bk) gr3,rfl⟩
   | 4,_=>exact⟨_,rfl,rfl,_,rfl,ifB (by decide) ⟨_,rfl,rfl,_,rfl,ifB (by decide) ⟨_,rfl,rfl,_,rfl,ifB (by decide) ⟨_,rfl,rfl,_,rfl,ifB (by decide) ⟨_,rfl,rfl,_,rfl,ifA (by decide) ⟨_,rfl,_,rfl,_,rfl,_,rfl,by show 2<=sizeLine;decide,fun l3 hl3=>⟨bk,l3,os,rs1,F1,k0,[q,q],rfl,L.same L2.bk (Same.new hl3 _),m1.1,zX.of zj,by simp[lq],fun H3 g3=>go ((Same.new hl3 _).trans g3)⟩⟩⟩⟩⟩⟩⟩
   | 5,_=>exact⟨_,rfl,rfl,_,rfl,ifB (by decide) ⟨_,rfl,rfl,_,rfl,ifB (by decide) ⟨_,rfl,rfl,_,rfl,ifB (by decide) ⟨_,rfl,rfl,_,rfl,ifB (by decide) ⟨_,rfl,rfl,_,rfl,ifB (by decide) ⟨_,rfl,rfl,_,rfl,ifA (by decide) ⟨_,rfl,_,rfl,_,rfl,bk,os,rs1,F1,k1,q,rfl,L2.bk,m2.1,lq,fun H3 g3=>go g3⟩⟩⟩⟩⟩⟩⟩
   | 6,_=>exact⟨_,rfl,rfl,_,rfl,ifB (by decide) ⟨_,rfl,rfl,_,rfl,ifB (by decide) ⟨_,rfl,rfl,_,rfl,ifB (by decide) ⟨_,rfl,rfl,_,rfl,ifB (by decide) ⟨_,rfl,rfl,_,rfl,ifB (by decide) ⟨_,rfl,rfl,_,rfl,ifB (by decide) ⟨_,rfl,_,rfl,_,rfl,bk,os,rs1,F1,k1,q,rfl,L2.bk,m2.1,lq,fun H3 g3=>go g3⟩⟩⟩⟩⟩⟩⟩
  ·rintro σ H3 ⟨NZ,F2,f8',L3,gr3,m3,m4,rfl⟩
   have lb3:=L3.len
   have zoK:=L3.same _ _ hkl
   refine⟨_,rfl,kl,_,rfl,.inl (zX.of zoK),_,rfl,Int.le_trans (by decide) (Int.natCast_nonneg _),Int.lt_of_le_of_lt (show((ys.length:Nat):Int)<=2000000 by omega) (by decide),?_⟩
   rw[zr5]
   have lr:ys.length<=NZ.length:=by rw[ly];exact gr3.len
   refine zbv (os:=os) (rs:=NZ) lr (Zt (by omega)) (fun i H' Q0 x hi hx g hQ=>?_) (fun zs H4 zl g4 lz rz hzl=>?_)
   ·have hB':=L.same L3.bk g
    obtain⟨dx',fs',hins',hm'⟩:=L.ins hB'
    refine⟨_,rfl,bk,dx',fs',rfl,hins',hm' _ (by decide +kernel),_,rfl,bk,os,NZ,F2,i,x,?_,hB',hx,fun v H3 g3 rv=>hQ v H3 g3 rv⟩
    show [V.ref bk,V.int (0+(i:Int))]=_
    rw[Int.zero_add]
   have gn:=Same.new hzl (.lst zs)
   have en:upd H4 zl (.lst zs) zl=some _:=zj
   have rz':=(rz.mono (yH.of gn)).back gr3 (by omega)
   generalize upd H4 zl _=H5 at gn en rz' ⊢
   have L5:=(L3.new L g4).new L gn
   refine⟨_,rfl,true,fun z=>absurd z.1 zrw,zhD (n:=6) (zX.of en) (zX.of (L5.same _ _ hkl)) rz' (ry.mono (yH.of L5.same)) (by omega) ly,_,rfl,RK ?_⟩
   obtain⟨dx5,fs5,zmX,hm5⟩:=L.ins L5.bk
   refine⟨_,rfl,bk,dx5,fs5,rfl,zmX,hm5 _ (by decide +kernel),bk,os,NZ,F2,rfl,L5.bk,fun l6 H6 g6 hl6 h6=>?_⟩
   have L6:=L5.new L g6
   refine⟨_,rfl,true,fun z=>absurd z.1 zrw,zhL (zX.of h6) (zX.of (L6.same _ _ hol)) (fun x hx=>by obtain⟨c,_,rfl⟩:=List.mem_map.mp hx;rfl),_,rfl,RK ?_⟩
   obtain⟨dx6,fs6,zmY,hm6⟩:=L.ins L6.bk
   refine⟨_,rfl,bk,dx6,fs6,rfl,zmY,hm6 _ (by decide +kernel),_,rfl,bk,p1,os,NZ,F2,s1,rfl,L6.bk,by omega,is1.mono (yH.of L6.same),in1,by omega,by omega,fun k3 rs3 H7 aw tu hB7 gr7 m7 hh=>?_⟩
   have m3':=m3.grown (L.bk L6.bk) gr7
   obtain rfl:k3=k0:=m7.eq (L.bk hB7) m3' fun _=>rfl
   exact⟨_,rfl,rfl,_,rfl,ifB (by rw[decide_eq_true rfl];rfl) ⟨rs3,F2,_,(L6.grow aw hB7 (fun x h=>.inl h) (zcj (L.bk hB7) hh)).wide (by omega),gr3.trans gr7,m3',m4.grown (L.bk L6.bk) gr7,rfl⟩⟩
 ·rintro σ H2 ⟨rs1,F1,f8,L2,gr,m1,m2,rfl⟩
  exact q9 _
theorem zjQ (T:Txt P w K mg a)(base:Heap):zA P w K mg base zU 60 a.a_law a.d_law p_law (zfy K):=by
 have cell:zA P w K mg base zU 1 a.xO a.xP yQ (QM K):=ze0 (k:=0) T
 have draw:zA P w K mg base zU 1 a.uK a.uL vD Mj:=zjM (k:=0) T
 have order:=zia (k:=1) T draw
 have sentence:=zdU (k:=1) T cell draw
 have NQ:zA P w K mg base zU 2 a.wj a.wk xJ wR:=zdT (k:=1) T
 have Sd:zA P w K mg base zU 1 a.xV a.xW xG wJ:=zcE (k:=0) T
 have flipped:=zeZ (k:=1) T Sd
 have zie:zA P w K mg base zU 1 a.Vh a.Vi Xa W5:=ze2 (k:=0) T
 have zjR:=zdV (k:=1) T zie
 have lettersOf:zA P w K mg base zU 1 a.Zw a.Zx uD Yu:=zaQ (k:=0) T
 have partsOf:zA P w K mg base zU 1 a.tO a.tQ v8 ZV:=zdW (k:=0) T
 have zas:=KY (k:=1) T partsOf
 have shaped:=zcF (k:=1) T zie lettersOf partsOf
 have zmZ:=zaj (k:=2) T shaped zas
 have zgG:=Lf (k:=2) T zjR
 have zjS:=Rh (k:=3) T zmZ
 have zif:=zcG (k:=2) T zas
 have zgH:=zaS (k:=3) T zif (lettersOf.mono (by decide))
 have zig:zA P w K mg base zU 1 a.uI a.uJ wW (VD K):=Nz (k:=0) T
 have zgI:=Qn (k:=4) T zgH (zig.mono (by decide))
 have two:zA P w K mg base zU 2 a.uc a.ud wX zde:=KZ (k:=1) T
 have table:=Kz (k:=2) T NQ (Sd.mono (by decide)) flipped (partsOf.mono (by decide)) two 24
 have zcR:=ze4 (k:=2) T (Sd.mono (by decide)) flipped
 have hangs:=zdZ (k:=2) T flipped
 have first:=zak (k:=3) T hangs
 have zat:=XJ (k:=4) T first (zcR.mono (by decide)) 9
 have enter:=zal (k:=26) T (zjS.mono (by decide)) (zgI.mono (by decide)) table (zat.mono (by decide))
 have init:=zcI (k:=3) T zgG (NQ.mono (by decide))
 have mbr:zA P w K mg base zU 1 a.yg a.yh z6 (vA a.zu):=T8 (k:=0) T
 have tat:zA P w K mg base zU 1 a.xK a.xM yP (ZW a.zu):=Li (k:=0) T
 have zih:zA P w K mg base zU 1 a.wH a.wI xR (vh (zW a.zu)):=zaV (k:=0) T
 have NT:zA P w K mg base zU 1 a.Z5 a.Z6 Za ZX:=ze6 (k:=0) T
 have vZ:zA P w K mg base zU 1 a.xO a.xP yQ (Jc K):=zgC (k:=0) T
 have plc:zA P w K mg base zU 1 a.tE a.tG vI (SJ a.zu):=Lh (k:=0) T
 have goi:zA P w K mg base zU 1 a.ZF a.ZG uE (Q9 a.zu):=zaU (k:=0) T
 have room:=zcM (k:=1) T mbr plc goi
 have lcu:=zd6 (k:=1) T draw
 have zlp:=zd2 (k:=1) T zih
 have zau:=K5 (k:=2) T zlp
 have having:=zao (K:=K) (k:=2) T NQ (Sd.mono (by decide)) (NT.mono (by decide))
 have rowsOf:=ze7 (K:=K) (k:=3) T having
 have zii:=zcO (k:=13) T (zau.mono (by decide)) (rowsOf.mono (by decide)) (zat.mono (by decide))
 have within:=zcP (k:=4) T (mbr.mono (by decide)) (zau.mono (by decide)) rowsOf (tat.mono (by decide)) (NT.mono (by decide))
 have widen:zA P w K mg base zU 1 a.S7 a.S8 Ve SQ:=ze8 (k:=0) T
 have prime:=zd3 (k:=5) T within (widen.mono (by decide))
 have below:=zam (k:=1) T mbr goi
 have sizeOf:=ze5 (k:=2) T below
 have zjT:=zgA (k:=1) T NT
 have trim:=zd1 (k:=4) T (NQ.mono (by decide)) (zcR.mono (by decide)) (hangs.mono (by decide)) (Sd.mono (by decide)) (zjT.mono (by decide)) 9
 have size:zA P w K mg base zU 1 a.Wj a.Wk Yw (VJ (zW a.zu)):=zcL (k:=0) T
 have zlq:=zgB (k:=13) T (mbr.mono (by decide)) zat (tat.mono (by decide)) (zih.mono (by decide)) trim (sizeOf.mono (by decide))
 have pf:=T9 (k:=3) T (NQ.mono (by decide)) zcR 9
 have pr:=zgF (k:=12) T (mbr.mono (by decide)) (tat.mono (by decide)) (zih.mono (by decide)) pf
 have ofOne:=zaq (K:=K) (k:=1) T NT
 have fv:=K4 (K:=K) (k:=3) T zcR
 have fr:=zcN (K:=K) (k:=4) T fv
 have cov:=zic (K:=K) (k:=13) T pr (rowsOf.mono (by decide)) (ofOne.mono (by decide)) (fr.mono (by decide)) (zih.mono (by decide))
 have zgJ:=Lj (K:=K) (k:=3) T zau
 have zm0:=zd5 (K:=K) (k:=4) T (mbr.mono (by decide)) zgJ rowsOf (tat.mono (by decide))
 exact ok_law (k:=58) T (vZ.mono (by decide)) (order.mono (by decide)) (sentence.mono (by decide)) (lcu.mono (by decide)) (init.mono (by decide)) (enter.mono (by decide)) (size.mono (by decide)) (zih.mono (by decide)) (room.mono (by decide)) (pr.mono (by decide)) (cov.mono (by decide)) (zii.mono (by decide)) (zlq.mono (by decide)) (zm0.mono (by decide)) (within.mono (by decide)) (prime.mono (by decide))
end
end K67
namespace PySem.W.Fast
def tw4991233704783640082:Nat:=0
def tw10860566955582816056:Nat:=0
def tw14008764723067940135:Nat:=0
def tw103257383116023644:Nat:=0
def tw17941541726643793123:Nat:=0
def tw12836973334722824823:Nat:=0
def tw16192093465582895313:Nat:=0
def tw3778515710388396460:Nat:=0
def tw3218534829421983107:Nat:=0
def tw16163919212542508745:Nat:=0
def tw7861542979518308047:Nat:=0
def tw8094658102692925094:Nat:=0
def tw12460574049617338039:Nat:=0
def tw13286315890840133729:Nat:=0
def tw13993105881014572700:Nat:=0
def tw17736599652735630054:Nat:=0
def tw12503657429849062839:Nat:=0
def tw2882498470500561978:Nat:=0
def tw16121613452165493649:Nat:=0
def tw8032159030277426131:Nat:=0
def tw2189073667297533413:Nat:=0
def tw10333928792011173659:Nat:=0
def tw11926869541688110373:Nat:=0
def tw3223467081681371342:Nat:=0
def tw9111810057217683613:Nat:=0
def tw12067323524255250491:Nat:=0
def tw10441887615280817980:Nat:=0
def tw11125671578515956579:Nat:=0
def tw7294617515276601928:Nat:=0
def tw2859788564006829692:Nat:=0
def tw8686480873241042317:Nat:=0
def tw17068488491522059107:Nat:=0
def tw12398517976516567483:Nat:=0
def tw4269586090255488343:Nat:=0
def tw16756391401989685995:Nat:=0
def tw15248141981440096450:Nat:=0
def tw841324240918312744:Nat:=0
def tw8228996011659893332:Nat:=0
def tw7476820769686210190:Nat:=0
def tw3754789910227289047:Nat:=0
def tw5129177756256719701:Nat:=0
def tw16593402116714130859:Nat:=0
def tw5407857716505723657:Nat:=0
def tw5186069352354122092:Nat:=0
def tw3518953766765040651:Nat:=0
def tw4179729084558475645:Nat:=0
def tw6692057707521875333:Nat:=0
def tw6889267258715948024:Nat:=0
def tw17995898185219410195:Nat:=0
def tw4261684622866060879:Nat:=0
def tw16242907545228224056:Nat:=0
def tw16364212355663253951:Nat:=0
def tw3255808340555084547:Nat:=0
def tw10014950450014769705:Nat:=0
def tw4670775886778521679:Nat:=0
def tw5762736874708033315:Nat:=0
def tw11843030551800513352:Nat:=0
def tw12957782683389415479:Nat:=0
def tw6120270217578200234:Nat:=0
def tw5546976150082085844:Nat:=0
def tw6897427390075687218:Nat:=0
def tw12836918128617050770:Nat:=0
def tw6883449438180062616:Nat:=0
def tw2642344360416505103:Nat:=0
def tw8857288108767233347:Nat:=0
def tw4092830148394016993:Nat:=0
def tw1025367928169344629:Nat:=0
def tw8278386255008912133:Nat:=0
def tw9983843610548096869:Nat:=0
def tw5187798194200663189:Nat:=0
def tw1673900077817089724:Nat:=0
def tw6046399377611175152:Nat:=0
def tw1768608485332305176:Nat:=0
def tw12482814142896445374:Nat:=0
def tw2547373244464235262:Nat:=0
def tw12720882520301849485:Nat:=0
def tw14265984484509407750:Nat:=0
def tw12478849966262246966:Nat:=0
def tw11447142485293144980:Nat:=0
def tw12689297797762947277:Nat:=0
def tw14550525499734667835:Nat:=0
def tw8347595689477906151:Nat:=0
def tw4994891902252843714:Nat:=0
def tw13615870846024908569:Nat:=0
def tw13309317566482253888:Nat:=0
def tw8470003367672055580:Nat:=0
def tw2445843790242505689:Nat:=0
def tw11271255425883570205:Nat:=0
def tw2885505624192276499:Nat:=0
def tw15785181108785597102:Nat:=0
def tw12805727634094131225:Nat:=0
def tw10832434988690278099:Nat:=0
def tw6890331312713067676:Nat:=0
def tw10643969505467433406:Nat:=0
def tw12039208769761397444:Nat:=0
def tw10990477402004255151:Nat:=0
def tw1514176884754009754:Nat:=0
def tw10752629037625168638:Nat:=0
def tw17689477254701784201:Nat:=0
def tw5838954662301203535:Nat:=0
def tw5056151017932826061:Nat:=0
def tw9743055719962835005:Nat:=0
def tw14438203207923613182:Nat:=0
def tw4999670279473888474:Nat:=0
def tw17455143540822540138:Nat:=0
def tw784468356091240306:Nat:=0
def tw710673982927456800:Nat:=0
def tw7411351367761781084:Nat:=0
def tw13046582224262414510:Nat:=0
def tw524800927089801317:Nat:=0
def tw16864927863919586010:Nat:=0
def tw18147158697963424957:Nat:=0
def tw4555376011867011355:Nat:=0
def tw9077029692807525209:Nat:=0
def tw6113885353680940331:Nat:=0
def tw15532853198128707215:Nat:=0
def tw3991582001750878628:Nat:=0
def tw5840552219391847145:Nat:=0
def tw16254990656934318597:Nat:=0
def tw1000597771425340308:Nat:=0
def tw17508334687841057163:Nat:=0
def tw14632019386360700684:Nat:=0
def tw1535842782728713180:Nat:=0
def tw1974614729017513598:Nat:=0
def tw5033691998252465853:Nat:=0
def tw4747390581585514617:Nat:=0
def tw12610934852127981247:Nat:=0
def tw13565037215827466221:Nat:=0
def tw14556297641874632553:Nat:=0
def tw17413043905540634446:Nat:=0
def tw13748664089715737388:Nat:=0
def tw10608436653594210055:Nat:=0
def tw9052379312721107021:Nat:=0
def tw3277196973982097079:Nat:=0
def tw13965904878696136979:Nat:=0
def tw8951800249542795470:Nat:=0
def tw3083278398709156072:Nat:=0
def tw11157466569169962246:Nat:=0
def tw8053432582864413854:Nat:=0
def tw7235535511699784811:Nat:=0
def tw17234882485890523285:Nat:=0
def tw14025382107327120974:Nat:=0
def tw2727671130475191644:Nat:=0
def tw17033504680254770703:Nat:=0
def tw9927672884955529706:Nat:=0
def tw1639515486638910068:Nat:=0
def tw13255588631996470521:Nat:=0
def tw1051535754490716410:Nat:=0
def tw77913246615424869:Nat:=0
def tw12785764477403399632:Nat:=0
def tw4423760061954864202:Nat:=0
def tw8668571647580885763:Nat:=0
def tw5065208987581172461:Nat:=0
def tw9549233862881272379:Nat:=0
def tw13384479111230057309:Nat:=0
def tw16488695573359732421:Nat:=0
def tw17205976670118174303:Nat:=0
def tw10404846867661783432:Nat:=0
def tw14432447524372047279:Nat:=0
def tw8615125724157025985:Nat:=0
def tw9151133556383821897:Nat:=0
def tw16668478267883769511:Nat:=0
def tw2418419482416088599:Nat:=0
def tw1417094859142354146:Nat:=0
def tw10957233483803019343:Nat:=0
def tw17449378195432163370:Nat:=0
def tw9141674563141369025:Nat:=0
def tw3619688181167242735:Nat:=0
def tw12126321404546462769:Nat:=0
def tw6732346168404015795:Nat:=0
def tw355236886417531307:Nat:=0
def tw2208048752785827354:Nat:=0
def tw16095090112033603780:Nat:=0
def tw5226852946010291862:Nat:=0
def tw16254891866861620209:Nat:=0
def tw14957861563725310835:Nat:=0
def tw7261563200855294302:Nat:=0
def tw3224909785832101483:Nat:=0
def tw17643374569148269511:Nat:=0
def tw13687023724595938798:Nat:=0
def tw15741112172210072896:Nat:=0
def tw1166086954771517706:Nat:=0
def tw13664249642575059642:Nat:=0
def tw13227729926916834981:Nat:=0
def tw1680862244394469713:Nat:=0
def tw9453843238579985087:Nat:=0
def tw1457925137664756792:Nat:=0
def tw5159334886974756605:Nat:=0
def tw7462820112667257635:Nat:=0
def tw11203932763796896172:Nat:=0
end PySem.W.Fast
open PySem PySem.W PyProof.Rows
set_option maxRecDepth 100000 in
set_option maxHeartbeats 0 in
theorem PySem.Challenge.cw_decidebook_k67_rooms_stay_what_they_are_holds : PySem.Challenge.rw_decidebook_k67_rooms_stay_what_they_are.Holds := by
  w_on;o_law;k_head;(case hw => w_witness2)
  k_fill
  refine L2.zg5 (l := PySem.Challenge.rw_decidebook_k67_rooms_stay_what_they_are) (n := 63) (k := 60) (x := "script") (CX := L2.zU) (sp := uU.zfy) rfl (by decide) rfl (by first | exact⟨rfl, by decide, by decide⟩ | exact⟨rfl, rfl, by decide, by decide⟩) (fun w h Y => PySem.W.kIn_of Y) ?F ?S ?C
  case F =>
    intro w mg fa h KX G hmg
    have T : ∃a, K67.Txt PySem.Challenge.rw_decidebook_k67_rooms_stay_what_they_are.prog w (L2.KOf KX) mg a := by
      dsimp only[L2.KOf]
      apply K67.zmP
      constructor
      (try dsimp only);apply mg_of KX G;k_is
      iterate 48 ((try dsimp only);apply L2.dfm KX G;k_is;k_is;k_is;k_is;intro _ _ _ _ _ _ us hl;first|(have z:=L2.Rf hl;subst z;rfl)|(obtain⟨_,us,e,hm⟩:=L2.Q5 hl;clear hl;subst e;have hl:=hm;clear hm;first|(have z:=L2.Rf hl;subst z;rfl)|(obtain⟨_,us,e,hm⟩:=L2.Q5 hl;clear hl;subst e;have hl:=hm;clear hm;first|(have z:=L2.Rf hl;subst z;rfl)|(obtain⟨_,us,e,hm⟩:=L2.Q5 hl;clear hl;subst e;have hl:=hm;clear hm;first|(have z:=L2.Rf hl;subst z;rfl)|(obtain⟨_,us,e,hm⟩:=L2.Q5 hl;clear hl;subst e;have hl:=hm;clear hm;first|(have z:=L2.Rf hl;subst z;rfl)|(obtain⟨_,us,e,hm⟩:=L2.Q5 hl;clear hl;subst e;have hl:=hm;clear hm;first|(have z:=L2.Rf hl;subst z;rfl)|(obtain⟨_,us,e,hm⟩:=L2.Q5 hl;clear hl;subst e;have hl:=hm;clear hm;first|(have z:=L2.Rf hl;subst z;rfl)|(obtain⟨_,us,e,hm⟩:=L2.Q5 hl;clear hl;subst e;have hl:=hm;clear hm;(have z:=L2.Rf hl;subst z;rfl)))))))))
      iterate 11 ((try dsimp only);apply L2.dmm;k_is;k_is;k_is;k_is;k_is;intro _ _ _ _ _ _ us hl;first|(have z:=L2.Rf hl;subst z;rfl)|(obtain⟨_,us,e,hm⟩:=L2.Q5 hl;clear hl;subst e;have hl:=hm;clear hm;first|(have z:=L2.Rf hl;subst z;rfl)|(obtain⟨_,us,e,hm⟩:=L2.Q5 hl;clear hl;subst e;have hl:=hm;clear hm;first|(have z:=L2.Rf hl;subst z;rfl)|(obtain⟨_,us,e,hm⟩:=L2.Q5 hl;clear hl;subst e;have hl:=hm;clear hm;first|(have z:=L2.Rf hl;subst z;rfl)|(obtain⟨_,us,e,hm⟩:=L2.Q5 hl;clear hl;subst e;have hl:=hm;clear hm;first|(have z:=L2.Rf hl;subst z;rfl)|(obtain⟨_,us,e,hm⟩:=L2.Q5 hl;clear hl;subst e;have hl:=hm;clear hm;first|(have z:=L2.Rf hl;subst z;rfl)|(obtain⟨_,us,e,hm⟩:=L2.Q5 hl;clear hl;subst e;have hl:=hm;clear hm;first|(have z:=L2.Rf hl;subst z;rfl)|(obtain⟨_,us,e,hm⟩:=L2.Q5 hl;clear hl;subst e;have hl:=hm;clear hm;(have z:=L2.Rf hl;subst z;rfl)))))))))
      iterate 2 ((try dsimp only);constructor;k_is;k_is;k_is;k_is)
      iterate 4 ((try dsimp only);unfold L2.Xh;k_is)
      (try dsimp only);apply mg_of KX G;k_is
      (try dsimp only);apply L2.zfz;k_is;rfl;decide
      iterate 3 ((try dsimp only);apply mg_of KX G;k_is)
      (try dsimp only);apply L2.zkX;k_is;rfl;(unfold K67.xH;decide +kernel);(unfold K67.xH;iterate 10 (apply L2.Ent.cons;k_is;rfl));apply L2.Ent.nil
      (try dsimp only);apply mg_of KX G;k_is
      (try dsimp only);apply L2.zfz;k_is;rfl;decide
      iterate 13 ((try dsimp only);apply mg_none_of KX G;k_is)
    obtain⟨a, T⟩ := T
    have e0 := hmg.symm.trans T.f_law.m
    cases e0
    exact⟨_, K67.x_law T.f_law, fun base kb nb => K67.zjQ T base⟩
  case S => exact fun K H a ns hl hO hS => ⟨a, ns, rfl, hS, hl, fun _ => rfl⟩
  case C => exact fun _ _ _ _ h => h
