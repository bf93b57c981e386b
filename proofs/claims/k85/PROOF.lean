import PyProof.Rows.All
import Wide.All
import OpenK.AllK
import Wide.FinOn
import Lean
import PyProof.EqAt
import PyProof.EqKinds
import PyProof.TupleCall
import KE.KRevIter
import PySem.Challenge.RW_decidebook_k85_whole_papers_and_counts
open PySem.W (Frag nsIn mg_of findIn mg_none_of)
def zuc:=@List.length_map
def zud:=@List.getElem?_eq_getElem
def zue:=@List.getElem?_map
def zuf:=@List.getElem?_eq_some_iff
def zug:=@Bool.false_ne_true
def zuh:=@List.mem_of_getElem?
def zui:=@PySem.Heap.get?_push_of_some
def zuj:=@PySem.Heap.lt_size
def zuk:=@List.length_append
def zul:=@Nat.lt_of_lt_of_le
def zum:=@List.size_toArray
def zun:=@List.mem_cons_of_mem
def zuo:=@List.length_cons
def zup:=@List.getD_eq_getElem?_getD
def zuq:=@List.map_append
def zur:=@Nat.ne_of_lt
def zus:=@Nat.le_refl
def zut:=@List.mem_append_right
def zuu:=@Nat.le_of_lt
def zuv:=@List.mem_cons_self
def zuw:=@PySem.Heap.get?_push_size
def zux:=@Nat.le_trans
def zuy:=@Nat.zero_le
def zuz:=@List.length_take
def zuA:=@List.map_cons
def zuB:=@List.lookup_cons
def zuC:=@List.not_mem_nil
def zuD:=@Bool.and_eq_true
def zuE:=@List.take_length
def zuF:=@List.all_eq_true
def zuG:=@Option.some.inj
def zuH:=@Nat.pow_le_pow_right
def zuI:=@List.getElem?_append_left
def zuJ:=@List.length_singleton
def zuK:=@List.length_filter_le
def zuL:=@List.getElem?_eq_none
def zuM:=@Nat.le_add_right
def zuN:=@List.map_map
def zuO:=@Int.toNat_natCast
def zuP:=@List.filter_append
def zuQ:=@Int.emod_lt_of_pos
def zuR:=@Bool.eq_iff_iff
def zuS:=@List.getElem_of_mem
def zuT:=@Int.emod_nonneg
set_option Elab.async false
set_option linter.all false
set_option maxRecDepth 100000
namespace L2
open PySem PySem.Spec PyProof.Rows
abbrev Key:=Sum Int Str
def JF:Key->Value->Bool
 | .inl k,v=>Value.isInt k v
 | .inr x,v=>Value.isStrOf x v
def zoC (w:World):Key->Int
 | .inl k=>hashInt k
 | .inr x=>hashStr w x
theorem xH:∀{k:Key} {v:Value},JF k v=true->(∃i t,k=Sum.inl i/\v=Value.int i t)\/(∃x t,k=Sum.inr x/\v=Value.str x t)
 | .inl i,v,h=>by
  obtain⟨t,e⟩:=Value.isInt_shape (k:=i) (v:=v) h
  exact .inl ⟨i,t,rfl,e⟩
 | .inr x,v,h=>by
  obtain⟨t,e⟩:=Value.isStrOf_shape (x:=x) (v:=v) h
  exact .inr ⟨x,t,rfl,e⟩
theorem zgO (i:Int)(t:Tok):JF (.inl i) (.int i t)=true:=by simp[JF,Value.isInt]
theorem zgP (x:Str)(t:Tok):JF (.inr x) (.str x t)=true:=by simp[JF,Value.isStrOf]
theorem zle (a b:Int):decide ((Sum.inl a:Key)=Sum.inl b)=(a==b):=by
 by_cases e:a=b
 ·subst e;simp
 ·have h:¬(Sum.inl a:Key)=Sum.inl b:=fun q=>e (Sum.inl.inj q)
  rw[decide_eq_false h]
  exact(beq_eq_false_iff_ne.mpr e).symm
theorem zlf (a b:Str):decide ((Sum.inr a:Key)=Sum.inr b)=decide (a=b):=by
 by_cases e:a=b
 ·subst e;simp
 ·have h:¬(Sum.inr a:Key)=Sum.inr b:=fun q=>e (Sum.inr.inj q)
  rw[decide_eq_false h,decide_eq_false e]
theorem zlg (a:Int)(b:Str):decide ((Sum.inl a:Key)=Sum.inr b)=false:=decide_eq_false (fun q=>nomatch q)
theorem zlh (a:Str)(b:Int):decide ((Sum.inr a:Key)=Sum.inl b)=false:=decide_eq_false (fun q=>nomatch q)
def yQ (prog:Program)(w:World):PySem.KeyKind prog w Key where
 is:=JF
 hash:=zoC w
 inj:=fun v a b ha hb=>by
  rcases xH ha with ⟨i,t,rfl,rfl⟩ | ⟨x,t,rfl,rfl⟩
  ·rcases xH hb with ⟨j,u,rfl,e⟩ | ⟨y,u,rfl,e⟩
   ·injection e with e1 _;rw[e1]
   ·exact nomatch e
  ·rcases xH hb with ⟨j,u,rfl,e⟩ | ⟨y,u,rfl,e⟩
   ·exact nomatch e
   ·injection e with e1 _;rw[e1]
 byValue:=fun k v h=>by
  rcases xH h with ⟨i,t,rfl,rfl⟩ | ⟨x,t,rfl,rfl⟩<;>rfl
 pyHash:=fun hv h=>by
  rcases xH hv with ⟨i,t,rfl,rfl⟩ | ⟨x,t,rfl,rfl⟩
  ·exact wpAny_pyHash_int h
  ·exact wpAny_pyHash_str h
 eqBool:=fun hu hv h=>by
  rcases xH hu with ⟨i,t,rfl,rfl⟩ | ⟨x,t,rfl,rfl⟩
  ·rcases xH hv with ⟨j,u,rfl,rfl⟩ | ⟨y,u,rfl,rfl⟩
   ·rw[zle] at h;exact wpAny_eqBool_int h
   ·rw[zlg] at h;exact SeqAt.EqAt.int_str i t y u _ _ _ _ h
  ·rcases xH hv with ⟨j,u,rfl,rfl⟩ | ⟨y,u,rfl,rfl⟩
   ·rw[zlh] at h;exact SeqAt.EqAt.str_int x t j u _ _ _ _ h
   ·rw[zlf] at h;exact wpAny_eqBool_str h
 «strs»:=fun k x t v h=>by
  rcases xH h with ⟨i,u,rfl,e⟩ | ⟨y,u,rfl,e⟩
  ·exact nomatch e
  ·injection e with e1 _
   subst e1
   cases v<;>rfl
theorem zeN (prog:Program)(w:World)(k:Key)(v:Value):(yQ prog w).is k v=JF k v:=rfl
theorem zdu (prog:Program)(w:World)(i:Int)(t:Tok):(yQ prog w).is (.inl i) (.int i t)=true:=zgO i t
theorem zdv (prog:Program)(w:World)(x:Str)(t:Tok):(yQ prog w).is (.inr x) (.str x t)=true:=zgP x t
inductive V where
 | non | bl (b:Bool) | int (i:Int) | str (x:Str) | byt (b:Array UInt8) | flt (b:UInt64) | ref (a:Addr) | ty (n:String)
 deriving DecidableEq
def RelV:V->Value->Prop
 | .non,u=>u=Value.none
 | .bl b,u=>u=Value.bool b
 | .int i,u=>∃t,u=Value.int i t
 | .str x,u=>∃t,u=Value.str x t
 | .byt b,u=>∃t,u=Value.bytes b t
 | .flt b,u=>∃t,u=Value.float b t
 | .ref a,u=>u=Value.ref a
 | .ty n,u=>u=Value.type n
abbrev Vals:List V->List Value->Prop:=Paired RelV
theorem Vals.length {xs:List V}{us:List Value}(r:Vals xs us):xs.length=us.length:=Paired.length r
theorem Vals.get:∀{xs:List V} {us:List Value} {i:Nat} {x:V},Vals xs us->xs[i]?=some x->∃u,us[i]?=some u/\RelV x u
 | _,_,_,_,.nil,e=>by simp at e
 | _,_,0,_,.cons r _,e=>by simp at e;subst e;exact⟨_,rfl,r⟩
 | _,_,i+1,x,.cons _ t,e=>by
  obtain⟨u,h1,h2⟩:=Vals.get (i:=i) (x:=x) t (by simpa using e)
  exact⟨u,by simpa using h1,h2⟩
theorem Vals.set {x:V}{u:Value}(r:RelV x u):∀{xs:List V} {us:List Value} (i:Nat),Vals xs us->Vals (xs.set i x) (us.set i u)
 | _,_,_,.nil=>.nil
 | _,_,0,.cons _ t=>.cons r t
 | _,_,i+1,.cons q t=>.cons q (Vals.set r i t)
theorem Vals.append:∀{xs ys:List V} {us ws:List Value},Vals xs us->Vals ys ws->Vals (xs++ys) (us++ws)
 | _,_,_,_,.nil,s=>s
 | _,_,_,_,.cons r t,s=>.cons r (Vals.append t s)
theorem Vals.take:∀{xs:List V} {us:List Value} (n:Nat),Vals xs us->Vals (xs.take n) (us.take n)
 | _,_,0,_=>.nil
 | _,_,_+1,.nil=>.nil
 | _,_,n+1,.cons r t=>.cons r (Vals.take n t)
theorem Vals.drop:∀{xs:List V} {us:List Value} (n:Nat),Vals xs us->Vals (xs.drop n) (us.drop n)
 | _,_,0,r=>r
 | _,_,_+1,.nil=>.nil
 | _,_,n+1,.cons _ t=>Vals.drop n t
def Rv:Option V->Option Value->Prop
 | some v,some u=>RelV v u
 | none,none=>True
 | _,_=>False
def KV {κ:Type}:List (κ×V)->List (κ×Value)->Prop:=Paired fun(p:κ×V) (q:κ×Value)=>p.1=q.1/\RelV p.2 q.2
def kV:Key->V
 | .inl i=>.int i
 | .inr x=>.str x
inductive HO where
 | lst (xs:List V)
 | tup (xs:List V)
 | dK (kvs:List (Key×V)) | dT (kvs:List (List Key×V))
 | set (S:Int->Bool) (n:Nat)
 | ins (C dx:Addr) (fs:List (Str×V))
 | own (x:Addr)
 | xd (fs:List (Str×V))
 | met (f x:Addr)
 | rng (lo hi:Int)
 | frz (o:Obj) (u:HO)
 | UW (ps:Array Value)
 | ext (φ:Heap->Prop)
abbrev Hp:=Addr->Option HO
def upd (H:Hp)(a:Addr)(o:HO):Hp:=fun b=>if b=a then some o else H b
theorem zf {H:Hp}{a:Addr}{o:HO}:upd H a o a=some o:=by unfold upd;rw[if_pos rfl]
theorem zy {H:Hp}{a b:Addr}{o:HO}(h:b≠a):upd H a o b=H b:=by unfold upd;rw[if_neg h]
theorem zjw {H:Hp}{a:Addr}{o u:HO}:upd (upd H a o) a u=upd H a u:=by
 funext b;unfold upd;split<;>rfl
theorem Yx {H:Hp}{a b:Addr}{o u:HO}(h:H a=some o)(h':H b=some u)(d:o≠u):a≠b:=by
 intro e;subst e;rw[h] at h';exact d (zuG h')
theorem zx {H:Hp}{a b:Addr}{o:HO}(h:H a=some o)(h':H b=none):a≠b:=by
 intro e;subst e;rw[h] at h';cases h'
section
variable (P:Program)(w:World)
def wL (H:Hp)(h:Heap)(a:Addr):HO->Prop
 | .lst xs=>xs.length<=sizeLine/\∃(its:List Value) (n:Nat),Vals xs its/\h.get? a=some { cls:=.type "list", data:=.seq its.toArray n }
 | .tup xs=>xs.length<=sizeLine/\∃its:List Value,Vals xs its/\IsTup h a its.toArray
 | .dK kvs=>kvs.length<=sizeLine/\(a==sysModules)=false/\∃vs,KV kvs vs/\h.DictOf (yQ P w) a vs
 | .dT kvs=>kvs.length<=sizeLine/\(a==sysModules)=false/\∃xs:List (List Key×Addr×Value),
   Paired (fun(p:List Key×V) (q:List Key×Addr×Value)=>p.1=q.1/\H q.2.1=some (.tup (p.1.map kV))/\RelV p.2 q.2.2) kvs xs /\
   ∃o es ep,h.get? a=some o/\o.ExactDict/\o.data=.dict es ep/\es.toList=xs.map (entryOfKey (tupleKind (yQ P w)))/\(xs.map (·.1)).Nodup
 | .set S n=>h.SetOf (intKind P w) a S n
 | .ins C dx fs=>H dx=some (.own a)/\fs.length<=1000/\dx≠a/\h.get? a=some (PySem.W.instObj C dx) /\
   ∃mA,h.Ns1 dx mA/\(∀f,Rv (fs.lookup f) (mA f))/\PySem.Within mA (fs.map (·.1))
 | .own _=>∃o,h.get? a=some o
 | .xd fs=>∃mA,h.Ns1 a mA/\∀f,Rv (fs.lookup f) (mA f)
 | .rng lo hi=>∃t u v,h.get? a=some { cls:=.type "range", data:=.fields #[.int lo t,.int hi u,.int 1 v] }
 | .frz o u=>h.get? a=some o/\wL H h a u
 | .UW ps=>h.get? a=some { cls:=.none,data:=.fields ps }
 | .met f x=>h.get? a=some (PySem.W.methodObj (.ref f) (.ref x))
 | .ext φ=>φ h/\(∃o,h.get? a=some o)/\∀h1 h2:Heap,φ h1->(∀o,h1.get? a=some o->h2.get? a=some o)->φ h2
def Rw (H:Hp)(h:Heap):Prop:=∀a o,H a=some o->wL P w H h a o
end
section
variable {P:Program}{w:World}{H H':Hp}{h h':Heap}{a:Addr}{o:HO}
theorem wL.lt (x:wL P w H h a o):a<h.objs.size:=by
 cases o with
 | lst xs=>obtain⟨_,_,_,_,e⟩:=x;exact zuj e
 | tup xs=>obtain⟨_,_,_,p⟩:=x;exact p.lt
 | dK kvs=>obtain⟨_,_,_,_,o,_,_,e,_⟩:=x;exact zuj e
 | dT kvs=>obtain⟨_,_,_,_,o,_,_,e,_⟩:=x;exact zuj e
 | set S n=>obtain⟨o,_,_,_,e,_⟩:=x;exact zuj e
 | ins C dx fs=>obtain⟨_,_,_,e,_⟩:=x;exact zuj e
 | own y=>obtain⟨_,e⟩:=x;exact zuj e
 | xd fs=>obtain⟨_,⟨_,_,_,e,_⟩,_⟩:=x;exact zuj e
 | rng lo hi=>obtain⟨_,_,_,e⟩:=x;exact zuj e
 | frz ob u=>obtain⟨e,_⟩:=x;exact zuj e
 | UW ps=>exact zuj (show h.get? a=some _ from x)
 | met f y=>exact zuj (show h.get? a=some _ from x)
 | ext φ=>obtain⟨_,⟨_,e⟩,_⟩:=x;exact zuj e
theorem Paired.zli {α β:Type}{F G:α->β->Prop}:∀{l₁:List α} {l₂:List β},Paired F l₁ l₂->(∀a b,F a b->G a b)->Paired G l₁ l₂
 | _,_,.nil,_=>.nil
 | _,_,.cons r t,f=>.cons (f _ _ r) (Paired.zli t f)
theorem wL.stay (x:wL P w H h a o)(k:∀b u,(b=a\/H b=some (.own a))->h.get? b=some u->h'.get? b=some u)
  (ho:∀b,H b=some (.own a)->H' b=some (.own a))(ht:∀b xs,H b=some (.tup xs)->H' b=some (.tup xs)):wL P w H' h' a o:=by
 induction o with
 | lst xs=>obtain⟨z,its,n,r,e⟩:=x;exact⟨z,its,n,r,k _ _ (.inl rfl) e⟩
 | tup xs=>obtain⟨z,its,r,ob,e,c⟩:=x;exact⟨z,its,r,ob,k _ _ (.inl rfl) e,c⟩
 | dK kvs=>obtain⟨z,y,vs,r,ob,es,ep,e,c⟩:=x;exact⟨z,y,vs,r,ob,es,ep,k _ _ (.inl rfl) e,c⟩
 | dT kvs =>
  obtain⟨z,y,xs,r,ob,es,ep,e,c⟩:=x
  exact⟨z,y,xs,Paired.zli r fun p q z=>⟨z.1,ht _ _ z.2.1,z.2.2⟩,ob,es,ep,k _ _ (.inl rfl) e,c⟩
 | set S n=>obtain⟨ob,es,ep,t,e,c⟩:=x;exact⟨ob,es,ep,t,k _ _ (.inl rfl) e,c⟩
 | ins C dx fs =>
  obtain⟨d,z,ne,e,mA,⟨od,es,ep,e2,c⟩,r⟩:=x
  exact⟨ho _ d,z,ne,k _ _ (.inl rfl) e,mA,⟨od,es,ep,k _ _ (.inr d) e2,c⟩,r⟩
 | own y=>obtain⟨ob,e⟩:=x;exact⟨ob,k _ _ (.inl rfl) e⟩
 | xd fs=>obtain⟨mA,⟨od,es,ep,e,c⟩,r⟩:=x;exact⟨mA,⟨od,es,ep,k _ _ (.inl rfl) e,c⟩,r⟩
 | rng lo hi=>obtain⟨t,u,v,e⟩:=x;exact⟨t,u,v,k _ _ (.inl rfl) e⟩
 | frz ob u ih=>obtain⟨e,q⟩:=x;exact⟨k _ _ (.inl rfl) e,ih q⟩
 | UW ps =>
  have e:h.get? a=some { cls:=.none,data:=.fields ps }:=x
  show h'.get? a=some { cls:=.none,data:=.fields ps }
  exact k a _ (.inl rfl) e
 | met f y =>
  have e:h.get? a=some (PySem.W.methodObj (.ref f) (.ref y)):=x
  show h'.get? a=some (PySem.W.methodObj (.ref f) (.ref y))
  exact k a _ (.inl rfl) e
 | ext φ=>obtain⟨p,⟨o,e⟩,st⟩:=x;exact⟨st _ _ p fun o q=>k _ _ (.inl rfl) q,⟨o,k _ _ (.inl rfl) e⟩,st⟩
theorem Rw.lt (x:Rw P w H h)(e:H a=some o):a<h.objs.size:=(x a o e).lt
theorem Rw.fresh (x:Rw P w H h)(e:h.objs.size<=a):H a=none:=by
 cases q:H a with
 | none=>rfl
 | some u=>exact absurd (zul (x.lt q) e) (Nat.lt_irrefl _)
theorem Rw.kept (x:Rw P w H h)(k:∀b u,h.get? b=some u->h'.get? b=some u):Rw P w H h':=fun a o e =>
 (x a o e).stay (fun b u _ q=>k b u q) (fun _ q=>q) fun _ _ q=>q
theorem Rw.laid (x:Rw P w H h)(k:∀b u,h.get? b=some u->h'.get? b=some u)(hp:h.objs.size<=a)(new:wL P w (upd H a o) h' a o):Rw P w (upd H a o) h':=fun b u e=>by
 have hn:=x.fresh hp
 by_cases hb:b=a
 ·subst hb;rw[zf] at e;cases e;exact new
 ·rw[zy hb] at e
  exact(x b u e).stay (fun c v _ q=>k c v q) (fun c q=>by rw[zy (zx q hn)];exact q) fun c xs q=>by rw[zy (zx q hn)];exact q
end
def Rd (H:Hp)(a:Addr)(u:HO):Prop:=H a=some u\/∃o,H a=some (.frz o u)
theorem Rd.ok {P:Program}{w:World}{H:Hp}{h:Heap}{a:Addr}{u:HO}(r:Rd H a u)(x:Rw P w H h):wL P w H h a u:=by
 rcases r with r | ⟨o,r⟩
 ·exact x a u r
 ·obtain⟨_,q⟩:=x a _ r
  exact q
def Mut:Option HO->Prop
 | some (.lst _)=>True
 | some (.dK _)=>True
 | some (.dT _)=>True
 | some (.set _ _)=>True
 | some (.ins _ _ _)=>True
 | some (.ext _)=>True
 | _=>False
section
variable {P:Program}{w:World}{H:Hp}{h h':Heap}{x e:Addr}{o':HO}
theorem Rw.write (ok:Rw P w H h)(mu:Mut (H x))(he:e=x\/H e=some (.own x))(k:∀b u,b≠e->h.get? b=some u->h'.get? b=some u)(heo:∃u,h'.get? e=some u)
  (new:wL P w (upd H x o') h' x o'):Rw P w (upd H x o') h':=fun b u q=>by
 have zmG:∀c y,H c=some (.own y)->c≠x:=fun c y r z=>by subst z;rw[r] at mu;exact mu
 have zoD:∀c xs,H c=some (.tup xs)->c≠x:=fun c xs r z=>by subst z;rw[r] at mu;exact mu
 by_cases hb:b=x
 ·subst hb;rw[zf] at q;cases q;exact new
 ·rw[zy hb] at q
  by_cases hbe:b=e
  ·have q':H b=some (.own x):=by
    rcases he with z | z
    ·exact absurd (hbe.trans z) hb
    ·rw[hbe];exact z
   rw[q] at q';cases q'
   obtain⟨v,hv⟩:=heo
   exact⟨v,by rw[hbe];exact hv⟩
  ·refine(ok b u q).stay (fun c v hc r=>k c v ?_ r) (fun c r=>by rw[zy (zmG c b r)];exact r) fun c xs r=>by rw[zy (zoD c xs r)];exact r
   rcases hc with rfl | hc
   ·exact hbe
   ·rintro rfl
    rcases he with z | z
    ·exact zmG c b hc z
    ·rw[hc] at z;cases z;exact hb rfl
end
structure Un (fs ex:List Addr)(H H':Hp)(h h':Heap):Prop where
 keep:∀b o,h.get? b=some o->H b=none->b∉fs->b∉ex->h'.get? b=some o
 slot:∀b o,h.get? b=some o->H b=none->b∈fs->b∉ex->∃sl,h'.get? b=some { o with slots:=sl }
 free:∀b o,h.get? b=some o->H b=none->b∉ex->H' b=none
 there:∀b o,h.get? b=some o->b∉ex->∃o',h'.get? b=some o'
 tups:∀b xs,H b=some (.tup xs)->H' b=some (.tup xs)
 zbh:∀b o u,H b=some (.frz o u)->H' b=some (.frz o u)
 zcs:∀b ps,H b=some (.UW ps)->∃more,H' b=some (.UW (ps++more))
section
variable {fs fs' ex ex':List Addr}{H H1 H2:Hp}{h h1 h2 h':Heap}{a x e:Addr}{o:HO}
theorem Un.any (u:Un fs ex H H1 h h1){b:Addr}{ob:Obj}(q:h.get? b=some ob)(n:H b=none)(hx:b∉ex):∃sl,h1.get? b=some { ob with slots:=sl }:=by
 by_cases hb:b∈fs
 ·exact u.slot b ob q n hb hx
 ·exact⟨ob.slots,u.keep b ob q n hb hx⟩
theorem Un.kept (k:∀b u,h.get? b=some u->h'.get? b=some u):Un fs ex H H h h' :=
 ⟨fun b ob q _ _ _=>k b ob q,fun b ob q _ _ _=>⟨ob.slots,k b ob q⟩,fun _ _ _ n _=>n,fun b ob q _=>⟨ob,k b ob q⟩,fun _ _ q=>q,fun _ _ _ q=>q,fun _ ps q=>⟨#[],by rw[q];simp⟩⟩
theorem Un.refl:Un fs ex H H h h:=Un.kept fun _ _ q=>q
theorem Un.laid (k:∀b u,h.get? b=some u->h'.get? b=some u)(hp:h.objs.size<=a)(hn:H a=none):Un fs ex H (upd H a o) h h' where
 keep:=fun b u q _ _ _=>k b u q
 slot:=fun b u q _ _ _=>⟨u.slots,k b u q⟩
 free:=fun b u q n _=>by rw[zy (zur (zul (zuj q) hp))];exact n
 there:=fun b u q _=>⟨u,k b u q⟩
 tups:=fun b xs q=>by rw[zy (zx q hn)];exact q
 zbh:=fun b u xs q=>by rw[zy (zx q hn)];exact q
 zcs:=fun b ps q=>⟨#[],by rw[zy (zx q hn),q];simp⟩
theorem Un.write (mu:Mut (H x))(he:e=x\/H e=some (.own x))(k:∀b u,b≠e->h.get? b=some u->h'.get? b=some u)(heo:∃u,h'.get? e=some u):Un fs ex H (upd H x o) h h':=by
 have hx:∀b,H b=none->b≠x:=fun b n z=>by subst z;rw[n] at mu;exact mu
 have hb:∀b,H b=none->b≠e:=fun b n z=>by
  subst z
  rcases he with r | r
  ·exact hx b n r
  ·rw[n] at r;cases r
 have hm:∀b u,H b=some u->¬Mut (some u)->b≠x:=fun b u q nm z=>by subst z;rw[q] at mu;exact nm mu
 refine⟨fun b u q n _ _=>k b u (hb b n) q,fun b u q n _ _=>⟨u.slots,k b u (hb b n) q⟩,fun b u q n _=>by rw[zy (hx b n)];exact n,fun b u q _=>?_,
  fun b xs q=>by rw[zy (hm b _ q fun z=>z)];exact q,fun b u xs q=>by rw[zy (hm b _ q fun z=>z)];exact q,fun b ps q=>⟨#[],by rw[zy (hm b _ q fun z=>z),q];simp⟩⟩
 by_cases hbe:b=e
 ·subst hbe;exact heo
 ·exact⟨u,k b u hbe q⟩
end
def trk (h:Heap)(H:Hp):List Addr:=(List.range h.objs.size).filter fun a=>(H a).isSome
def zct (h:Heap)(H:Hp):Heap:=PySem.W.hideAll h (trk h H)
theorem zgQ (h:Heap)(H:Hp):(zct h H).objs.size=h.objs.size:=PySem.W.hideAll_size _ _
theorem zh6 {h:Heap}{H:Hp}{b:Addr}{o:Obj}(e:h.get? b=some o)(n:H b=none):(zct h H).get? b=some o :=
 PySem.W.hideAll_get _ e fun hm=>by
  have q:(H b).isSome=true:=(List.mem_filter.mp hm).2
  rw[n] at q;simp at q
theorem zjx {h:Heap}{H:Hp}{b:Addr}{o:Obj}(e:(zct h H).get? b=some o):h.get? b=some o/\H b=none:=by
 have e':h.get? b=some o:=PySem.W.of_hideAll (trk h H) e
 refine⟨e',?_⟩
 cases q:H b with
 | none=>rfl
 | some x =>
  have hm:b∈trk h H:=List.mem_filter.mpr ⟨List.mem_range.mpr (zuj e'),by simp[q]⟩
  have z:(zct h H).get? b=none:=PySem.W.hideAll_none (trk h H) hm
  rw[z] at e;cases e
structure Mod (K:Frag)(mg:Str->Option Value)(base:Heap):Prop where
 kin:K.In base
 glob:base.Ns mainGlobals mg
 blt:∃mb,base.Ns builtinsNs mb/\∀x:Str,x ≠ "__name__" -> mb x=bootBuiltins x
 nolimit:base.NoLimit
structure Cx where
 prog:Program
 w:World
 K:Frag
 mg:Str->Option Value
 base:Heap
 A:Around
 N:List Str
 s₀:Shared
 H₀:Hp
 env:Env
 outer:List Env
 stack:List Env
 ex:List Addr
 fn:Str->Bool
 calm:Bool
 pn:List (Addr×Obj)
 xe:Value->Shared->Prop
def frs (l:List Env):List Addr:=l.filterMap (·.frame)
abbrev Cx.fs (X:Cx):List Addr:=frs X.outer
def Vis (sc:Scope)(x:Str):Prop:=sc.names.lookup x=some .local\/sc.names.lookup x=some .cell\/sc.names.lookup x=some .free
def Loc (sc:Scope)(x:Str):Prop:=sc.names.lookup x=some .local\/sc.names.lookup x=some .cell
def Look (env:Env)(h:Heap)(m:Str->Option Value)(x:Str)(u:Value):Prop :=
 (env.kindOf x=some .local/\m x=some u)\/((env.kindOf x=some .cell\/env.kindOf x=some .free)/\∃c,env.cells.lookup x=some c/\h.IsCell c (some u))
structure Cx.Ok (X:Cx):Prop where
 mod:Mod X.K X.mg X.base
 kind:X.env.scope.kind=.function
 glob:X.env.globals=mainGlobals
 blt:X.env.builtins=builtinsNs
 above:X.s₀.heap.objs.size<=X.env.locals
 inj:∀x y c,X.env.cells.lookup x=some c->X.env.cells.lookup y=some c->x=y
 has:∀x,(X.env.kindOf x=some .cell\/X.env.kindOf x=some .free)->∃c,X.env.cells.lookup x=some c
 cab:∀x c,X.fn x=true->X.env.cells.lookup x=some c->X.s₀.heap.objs.size<=c
 hd:X.calm=true->X.A.handled=none
 frames:X.A.frames=some X.stack
 stk:X.stack=X.outer\/(X.stack=X.env::X.outer/\X.env.frame=some X.env.locals)
 exf:∀b∈X.ex,b≠X.env.locals/\∀x c,X.env.cells.lookup x=some c->c≠b
 bs:∀b o,X.base.get? b=some o->X.s₀.heap.get? b=some o/\X.H₀ b=none
 bsz:X.base.objs.size<=X.s₀.heap.objs.size
 zgR:∀b o,X.base.get? b=some o->b∉X.ex
 zgS:∀b∈X.ex,b∉X.fs
 Nz:X.s₀.heap.FunFrames X.base X.outer
 frf:∀b∈X.fs,X.H₀ b=none
structure Inv (X:Cx)(pins:List (Addr×Obj))(σ:List (Option V))(H:Hp)(s:Shared):Prop where
 ok:X.Ok
 os:s.os=X.s₀.os
 bare:AllBare s.gens
 base:Un X.fs X.ex X.H₀ H X.s₀.heap s.heap
 loc:∃m,s.heap.Ns X.env.locals m/\∀(i:Nat) (x:Str) (v:V),X.N[i]?=some x->σ[i]?=some (some v)->Vis X.env.scope x->∃u,RelV v u/\Look X.env s.heap m x u
 cell:∀x c,X.env.cells.lookup x=some c->∃v,s.heap.IsCell c v
 free:H X.env.locals=none
 U3:∀x c,X.env.cells.lookup x=some c->H c=none
 pin:∀p∈X.pn++pins,s.heap.get? p.1=some p.2/\H p.1=none/\p.1≠X.env.locals/\p.1∉X.fs/\∀v,p.2.data≠.cell v
 hok:Rw X.prog X.w H s.heap
 len:σ.length=X.N.length
section
variable {X:Cx}{pins:List (Addr×Obj)}{σ:List (Option V)}{H H':Hp}{s:Shared}{h':Heap}
theorem Cx.Ok.zoE (ok:X.Ok){b:Addr}{o:Obj}(e:X.base.get? b=some o):b∉X.fs:=fun hb=>by
 have:=(ok.Nz.mem hb).1
 rw[e] at this;cases this
theorem Inv.bs (I:Inv X pins σ H s):∀b o,X.base.get? b=some o->s.heap.get? b=some o/\H b=none:=fun b o e =>
 ⟨I.base.keep b o (I.ok.bs b o e).1 (I.ok.bs b o e).2 (I.ok.zoE e) (I.ok.zgR b o e),I.base.free b o (I.ok.bs b o e).1 (I.ok.bs b o e).2 (I.ok.zgR b o e)⟩
theorem Inv.bk (I:Inv X pins σ H s):∀b o,X.base.get? b=some o->s.heap.get? b=some o:=fun b o e=>(I.bs b o e).1
theorem Inv.mod (I:Inv X pins σ H s):Mod X.K X.mg X.base:=I.ok.mod
theorem Inv.NK (I:Inv X pins σ H s):X.K.In s.heap:=I.ok.mod.kin.keeps I.bk
theorem Inv.lt (I:Inv X pins σ H s):X.env.locals<s.heap.objs.size:=let ⟨_,hn,_⟩:=I.loc;hn.lt
theorem Inv.sz (I:Inv X pins σ H s):X.s₀.heap.objs.size<=s.heap.objs.size:=zux I.ok.above (zuu I.lt)
theorem Inv.zlj (I:Inv X pins σ H s){a:Addr}(h:s.heap.objs.size<=a):a∉X.fs:=fun hb=>by
 obtain⟨_,o,ho,_⟩:=I.ok.Nz.mem hb
 exact absurd (zul (zuj ho) (zux I.sz h)) (Nat.lt_irrefl _)
theorem Inv.cne (I:Inv X pins σ H s):∀x c,X.env.cells.lookup x=some c->c≠X.env.locals:=fun x c e z=>by
 obtain⟨v,o,ho,hd⟩:=I.cell x c e
 obtain⟨m,⟨o',es,ep,ho',hd',_⟩,_⟩:=I.loc
 rw[z,ho'] at ho;cases ho;rw[hd'] at hd;cases hd
theorem Inv.Nz (I:Inv X pins σ H s):s.heap.FunFrames X.base X.outer:=by
 have all:∀(l:List Env),(∀b∈frs l,b∈X.fs)->X.s₀.heap.FunFrames X.base l->s.heap.FunFrames X.base l:=by
  intro l
  induction l with
  | nil=>intro _ _;trivial
  | cons env r ih =>
   intro hs hl
   obtain⟨hk,⟨L,o,hf,hn,ho,hd⟩,hr⟩:=hl
   have hL:L∈X.fs:=hs L (by unfold frs;rw[List.filterMap_cons,hf];exact zuv)
   obtain⟨sl,e⟩:=I.base.slot L o ho (I.ok.frf L hL) hL fun z=>I.ok.zgS L z hL
   exact⟨hk,⟨L,_,hf,hn,e,hd⟩,ih (fun b hb=>hs b (by unfold frs;rw[List.filterMap_cons,hf];exact zun _ hb)) hr⟩
 exact all X.outer (fun _ hb=>hb) I.ok.Nz
theorem Inv.stack (I:Inv X pins σ H s):s.heap.FunFrames X.base X.stack:=by
 rcases I.ok.stk with e | ⟨e,hf⟩
 ·rw[e];exact I.Nz
 ·rw[e]
  obtain⟨m,hn,_⟩:=I.loc
  refine .cons (by rw[I.ok.kind];decide) hf hn ?_ I.Nz
  exact Heap.get?_none_of_le (zux I.ok.bsz I.ok.above)
theorem Inv.zcu (I:Inv X pins σ H s):∀b∈frs X.stack,b∈X.env.locals::X.fs:=fun b hb=>by
 rcases I.ok.stk with e | ⟨e,hf⟩
 ·rw[e] at hb;exact zun _ hb
 ·rw[e] at hb
  unfold frs at hb
  rw[List.filterMap_cons,hf] at hb
  exact hb
theorem Inv.zf6 (I:Inv X pins σ H s):∀b∈frs X.stack,H b=none:=fun b hb=>by
 rcases List.mem_cons.mp (I.zcu b hb) with e | hb
 ·rw[e];exact I.free
 ·obtain⟨_,o,ho,_⟩:=I.ok.Nz.mem hb
  exact I.base.free b o ho (I.ok.frf b hb) fun z=>I.ok.zgS b z hb
theorem Inv.step {g':Array GenState}{t':Nat}{d':Drawn}{ch:List Addr}(I:Inv X pins σ H s)
  (hch:∀b∈ch,(b∈X.ex\/X.s₀.heap.objs.size<=b)/\b≠X.env.locals/\(∀x c,X.env.cells.lookup x=some c->c≠b)/\∀p∈X.pn++pins,p.1≠b)
  (keep:∀b o,b≠X.env.locals->b∉X.fs->b∉ch->s.heap.get? b=some o->H b=none->h'.get? b=some o)
  (slot:∀b o,b≠X.env.locals->b∈X.fs->b∉ch->s.heap.get? b=some o->H b=none->∃sl,h'.get? b=some { o with slots:=sl })(free:∀b o,b∉ch->s.heap.get? b=some o->H b=none->H' b=none)
  (there:∀b o,b∉ch->s.heap.get? b=some o->∃o',h'.get? b=some o')
  (tups:∀b xs,H b=some (.tup xs)->H' b=some (.tup xs))(zbh:∀b o u,H b=some (.frz o u)->H' b=some (.frz o u))(zcs:∀b ps,H b=some (.UW ps)->∃more,H' b=some (.UW (ps++more)))
  (ns:∀m,s.heap.Ns X.env.locals m->h'.Ns X.env.locals m)(hok:Rw X.prog X.w H' h')(hg:AllBare g') :
  Inv X pins σ H' { s with heap:=h',gens:=g',drawn:=d',toks:=t' }:=by
 have neL:∀b o,X.s₀.heap.get? b=some o->b≠X.env.locals:=fun b o e=>zur (zul (zuj e) I.ok.above)
 have neC:∀b o,X.s₀.heap.get? b=some o->b∉X.ex->b∉ch:=fun b o e hx hb=>by
  rcases (hch b hb).1 with z | z
  ·exact hx z
  ·exact absurd (zul (zuj e) z) (Nat.lt_irrefl _)
 have cellK:∀x c,X.env.cells.lookup x=some c->∀v,s.heap.IsCell c v->h'.IsCell c v:=fun x c e v ⟨o,ho,hd⟩=>by
  have nch:c∉ch:=fun z=>(hch c z).2.2.1 x c e rfl
  by_cases hc:c∈X.fs
  ·obtain⟨sl,q⟩:=slot c o (I.cne x c e) hc nch ho (I.U3 x c e)
   exact⟨_,q,hd⟩
  ·exact⟨o,keep c o (I.cne x c e) hc nch ho (I.U3 x c e),hd⟩
 refine⟨I.ok,I.os,hg,⟨fun b o e n hb hx=>?_,fun b o e n hb hx=>?_,fun b o e n hx=>?_,fun b o e hx=>?_,fun b xs e=>tups b xs (I.base.tups b xs e),fun b o xs e=>zbh b o xs (I.base.zbh b o xs e),fun b ps e=>?_⟩,?_,fun x c e=>?_,?_,fun x c e=>?_,fun p hp=>?_,hok,I.len⟩
 ·exact keep b o (neL b o e) hb (neC b o e hx) (I.base.keep b o e n hb hx) (I.base.free b o e n hx)
 ·obtain⟨sl,e1⟩:=I.base.slot b o e n hb hx
  obtain⟨sl',e2⟩:=slot b _ (neL b o e) hb (neC b o e hx) e1 (I.base.free b o e n hx)
  exact⟨sl',e2⟩
 ·obtain⟨o',e1⟩:=I.base.there b o e hx
  exact free b o' (neC b o e hx) e1 (I.base.free b o e n hx)
 ·obtain⟨o',e1⟩:=I.base.there b o e hx
  exact there b o' (neC b o e hx) e1
 ·obtain⟨m1,e1⟩:=I.base.zcs b ps e
  obtain⟨m2,e2⟩:=zcs b _ e1
  exact⟨m1++m2,by rw[e2,Array.append_assoc]⟩
 ·obtain⟨m,hn,hl⟩:=I.loc
  refine⟨m,ns m hn,fun i x v e1 e2 e3=>?_⟩
  obtain⟨u,r,l⟩:=hl i x v e1 e2 e3
  refine⟨u,r,?_⟩
  rcases l with l | ⟨k,c,e,z⟩
  ·exact .inl l
  ·exact .inr ⟨k,c,e,cellK x c e _ z⟩
 ·obtain⟨v,z⟩:=I.cell x c e
  exact⟨v,cellK x c e v z⟩
 ·obtain⟨m,⟨o,_,_,ho,_⟩,_⟩:=I.loc
  exact free _ o (fun z=>(hch _ z).2.1 rfl) ho I.free
 ·obtain⟨v,o,ho,hd⟩:=I.cell x c e
  exact free c o (fun z=>(hch c z).2.2.1 x c e rfl) ho (I.U3 x c e)
 ·obtain⟨e,n,ne,nf,d⟩:=I.pin p hp
  have nch:p.1∉ch:=fun z=>(hch p.1 z).2.2.2 p hp rfl
  exact⟨keep p.1 p.2 ne nf nch e n,free p.1 p.2 nch e n,ne,nf,d⟩
theorem Inv.un {t':Nat}(I:Inv X pins σ H s)(u:Un X.fs [] H H' s.heap h')(hok:Rw X.prog X.w H' h'):Inv X pins σ H' { s with heap:=h',toks:=t' }:=by
 obtain⟨m,⟨o,es,ep,ho,r⟩,_⟩:=id I.loc
 obtain⟨sl,hL⟩:=u.any ho I.free (by simp)
 exact I.step (g':=s.gens) (d':=s.drawn) (ch:=[]) (fun _ z=>nomatch z) (fun b o _ hb _ e n=>u.keep b o e n hb (by simp)) (fun b o _ hb _ e n=>u.slot b o e n hb (by simp)) (fun b o _ e n=>u.free b o e n (by simp)) (fun b o _ e=>u.there b o e (by simp)) u.tups u.zbh u.zcs (fun m' hm=>by
  obtain⟨o',es',ep',ho',r'⟩:=hm
  rw[ho] at ho';cases ho'
  exact⟨_,es',ep',hL,r'⟩) hok I.bare
theorem Inv.call {g':Array GenState}{t':Nat}{d':Drawn}{ch:List Addr}(I:Inv X pins σ H s)(u:Un (frs X.stack) ch H H' s.heap h')(hok:Rw X.prog X.w H' h')(hg:AllBare g')
  (hch:∀b∈ch,(b∈X.ex\/X.s₀.heap.objs.size<=b)/\b≠X.env.locals/\(∀x c,X.env.cells.lookup x=some c->c≠b)/\∀p∈X.pn++pins,p.1≠b) :
  Inv X pins σ H' { s with heap:=h',gens:=g',drawn:=d',toks:=t' }:=by
 obtain⟨m,⟨o,es,ep,ho,r⟩,_⟩:=id I.loc
 obtain⟨sl,hL⟩:=u.any ho I.free fun z=>(hch _ z).2.1 rfl
 exact I.step (ch:=ch) hch (fun b o hL hb hc e n=>u.keep b o e n (fun z=>(List.mem_cons.mp (I.zcu b z)).elim hL hb) hc) (fun b o _ _ hc e n=>u.any e n hc) (fun b o hc e n=>u.free b o e n hc) (fun b o hc e=>u.there b o e hc) u.tups u.zbh u.zcs (fun m' hm=>by
  obtain⟨o',es',ep',ho',r'⟩:=hm
  rw[ho] at ho';cases ho'
  exact⟨_,es',ep',hL,r'⟩) hok hg
theorem Inv.turned {t':Nat}{it:Addr}(I:Inv X pins σ H s)(k:∀b o,b≠it->s.heap.get? b=some o->h'.get? b=some o)(hn:H it=none)(hL:it≠X.env.locals)
  (h1:it∈X.ex\/X.s₀.heap.objs.size<=it)(h2:∀x c,X.env.cells.lookup x=some c->c≠it)(h3:∀p∈X.pn++pins,p.1≠it):Inv X pins σ H { s with heap:=h',toks:=t' }:=by
 have nit:∀b u,H b=some u->b≠it:=fun b u e z=>by rw[z,hn] at e;cases e
 refine I.step (g':=s.gens) (d':=s.drawn) (ch:=[it]) (fun b hb=>?_) (fun b o _ _ hc e _=>k b o (fun z=>hc (by simp[z])) e) (fun b o _ _ hc e _=>⟨o.slots,k b o (fun z=>hc (by simp[z])) e⟩) (fun _ _ _ _ n=>n)
  (fun b o hc e=>⟨o,k b o (fun z=>hc (by simp[z])) e⟩) (fun _ _ e=>e) (fun _ _ _ e=>e) (fun b ps e=>⟨#[],by rw[e];simp⟩) (fun m hm=>?_) (fun b u e=>?_) I.bare
 ·have e:b=it:=by simpa using hb
  subst e
  exact⟨h1,hL,h2,h3⟩
 ·obtain⟨o,es,ep,ho,r⟩:=hm
  exact⟨o,es,ep,k _ o (Ne.symm hL) ho,r⟩
 ·refine(I.hok b u e).stay (fun c v hc q=>k c v ?_ q) (fun _ q=>q) fun _ _ q=>q
  rcases hc with z | z
  ·rw[z];exact nit b u e
  ·exact nit c _ z
theorem Inv.tok (I:Inv X pins σ H s)(t:Nat):Inv X pins σ H { s with toks:=t }:=I.un (h':=s.heap) (t':=t) Un.refl I.hok
theorem Inv.kept {t':Nat}(I:Inv X pins σ H s)(k:∀b u,s.heap.get? b=some u->h'.get? b=some u):Inv X pins σ H { s with heap:=h',toks:=t' }:=I.un (Un.kept k) (I.hok.kept k)
theorem Inv.laid {a:Addr}{o:HO}{t':Nat}(I:Inv X pins σ H s)(k:∀b u,s.heap.get? b=some u->h'.get? b=some u)(hp:s.heap.objs.size<=a)(new:wL X.prog X.w (upd H a o) h' a o) :
  Inv X pins σ (upd H a o) { s with heap:=h',toks:=t' }:=I.un (Un.laid k hp (I.hok.fresh hp)) (I.hok.laid k hp new)
theorem Inv.write {x e:Addr}{o:HO}{t':Nat}(I:Inv X pins σ H s)(mu:Mut (H x))(he:e=x\/H e=some (.own x))(k:∀b u,b≠e->s.heap.get? b=some u->h'.get? b=some u)(heo:∃u,h'.get? e=some u)
  (new:wL X.prog X.w (upd H x o) h' x o):Inv X pins σ (upd H x o) { s with heap:=h',toks:=t' }:=I.un (Un.write mu he k heo) (I.hok.write mu he k heo new)
theorem Inv.Vp {pins':List (Addr×Obj)}(I:Inv X pins σ H s)(h:∀p∈pins',s.heap.get? p.1=some p.2/\H p.1=none/\p.1≠X.env.locals/\p.1∉X.fs/\∀v,p.2.data≠.cell v):Inv X pins' σ H s :=
 ⟨I.ok,I.os,I.bare,I.base,I.loc,I.cell,I.free,I.U3,fun p hp=>(List.mem_append.mp hp).elim (fun z=>I.pin p (List.mem_append_left _ z)) (h p),I.hok,I.len⟩
theorem zdw {N:List Str}(hN:N.Nodup){i j:Nat}{x:Str}(a:N[i]?=some x)(b:N[j]?=some x):i=j:=by
 obtain⟨h1,e1⟩:=zuf.mp a
 obtain⟨h2,e2⟩:=zuf.mp b
 exact(List.getElem_inj hN).mp (e1.trans e2.symm)
theorem zgT {M:Model}{A:Around}{E:Value->Shared->Prop}{i:Nat}{x:Str}{v:V}{u:Value}{Q:Unit->Shared->Prop}(I:Inv X pins σ H s)(hN:X.N.Nodup)(hi:X.N[i]?=some x)(hx:Loc X.env.scope x)(r:RelV v u)
  (h:∀s',Inv X pins (σ.set i (some v)) H s'->(∃a,Heap.SameBut a s.heap s'.heap/\(a=X.env.locals\/X.env.cells.lookup x=some a))->Q () s')(hf:X.fn x=true\/X.env.scope.names.lookup x=some .local:=by first | exact .inl rfl | exact .inr rfl | assumption):wpAny M A (storeName X.env x u) Q E s:=by
 obtain⟨m,hn,hl⟩:=id I.loc
 have hcls:(X.env.scope.kind==.class||(X.env.scope.kind==.module&&X.env.locals != X.env.globals))=false:=by rw[I.ok.kind];rfl
 have hiσ:i < σ.length:=by rw[I.len];exact(zuf.mp hi).1
 have cne:=I.cne
 have tracked:∀{a:Addr} {h':Heap},(∃o,s.heap.get? a=some o/\H a=none)->Heap.SameBut a s.heap h'->Rw X.prog X.w H h':=fun {a h'} ha hs b ob e=>by
  obtain⟨_,_,hfree⟩:=ha
  refine(I.hok b ob e).stay (fun c w' hc q=>(hs.2 c ?_).trans q) (fun _ q=>q) fun _ _ q=>q
  rintro rfl
  rcases hc with rfl | hc
  ·rw[hfree] at e;cases e
  ·rw[hfree] at hc;cases hc
 rcases hx with hk | hk
 ·refine wpAny_storeName_local hk hn (fun h' hn' hs=>?_) hcls
  obtain⟨oL,_,_,hoL,_⟩:=id hn
  refine h _ ⟨I.ok,I.os,I.bare,⟨fun b o e n hb hx=>?_,fun b o e n hb hx=>?_,I.base.free,fun b o e hx=>?_,I.base.tups,I.base.zbh,I.base.zcs⟩,⟨_,hn',fun j y v' e1 e2 e3=>?_⟩,fun y c e=>?_,I.free,I.U3,fun p hp=>?_,tracked ⟨oL,hoL,I.free⟩ hs,by simpa using I.len⟩ ⟨_,hs,.inl rfl⟩
  ·exact(hs.2 b (zur (zul (zuj e) I.ok.above))).trans (I.base.keep b o e n hb hx)
  ·obtain⟨sl,e1⟩:=I.base.slot b o e n hb hx
   exact⟨sl,(hs.2 b (zur (zul (zuj e) I.ok.above))).trans e1⟩
  ·obtain⟨o',e1⟩:=I.base.there b o e hx
   exact⟨o',(hs.2 b (zur (zul (zuj e) I.ok.above))).trans e1⟩
  ·by_cases hj:j=i
   ·subst hj
    rw[hi] at e1;cases e1
    rw[List.getElem?_set_self hiσ] at e2
    cases e2
    exact⟨u,r,.inl ⟨hk,by simp⟩⟩
   ·rw[List.getElem?_set_ne (Ne.symm hj)] at e2
    obtain⟨u',r',q⟩:=hl j y v' e1 e2 e3
    refine⟨u',r',?_⟩
    rcases q with ⟨k,e⟩ | ⟨k,c,e,z⟩
    ·refine .inl ⟨k,?_⟩
     have:y≠x:=fun e=>hj (zdw hN e1 (e ▸ hi))
     simp[this,e]
    ·exact .inr ⟨k,c,e,z.sameBut hs (cne y c e)⟩
  ·obtain⟨w',z⟩:=I.cell y c e
   exact⟨w',z.sameBut hs (cne y c e)⟩
  ·obtain⟨e,n,ne,nf,d⟩:=I.pin p hp
   exact⟨(hs.2 p.1 ne).trans e,n,ne,nf,d⟩
 ·have hfn:X.fn x=true:=by
   rcases hf with z | z
   ·exact z
   ·rw[z] at hk;cases hk
  obtain⟨c,hc⟩:=I.ok.has x (.inl hk)
  obtain⟨w',z⟩:=I.cell x c hc
  refine wpAny_storeName_cell I.ok.kind hk hc z (fun h' hc' hs=>?_)
  obtain⟨oc,hoc,zoF⟩:=id z
  refine h { s with heap:=h' } ⟨I.ok,I.os,I.bare,⟨fun b o e n hb hx=>?_,fun b o e n hb hx=>?_,I.base.free,fun b o e hx=>?_,I.base.tups,I.base.zbh,I.base.zcs⟩,⟨m,hn.sameBut hs (Ne.symm (cne x c hc)),fun j y v' e1 e2 e3=>?_⟩,fun y c' e=>?_,I.free,I.U3,fun p hp=>?_,tracked ⟨oc,hoc,I.U3 x c hc⟩ hs,by simpa using I.len⟩ ⟨c,hs,.inr hc⟩
  ·exact(hs.2 b (zur (zul (zuj e) (I.ok.cab x c hfn hc)))).trans (I.base.keep b o e n hb hx)
  ·obtain⟨sl,e1⟩:=I.base.slot b o e n hb hx
   exact⟨sl,(hs.2 b (zur (zul (zuj e) (I.ok.cab x c hfn hc)))).trans e1⟩
  ·obtain⟨o',e1⟩:=I.base.there b o e hx
   exact⟨o',(hs.2 b (zur (zul (zuj e) (I.ok.cab x c hfn hc)))).trans e1⟩
  ·by_cases hj:j=i
   ·subst hj
    rw[hi] at e1;cases e1
    rw[List.getElem?_set_self hiσ] at e2
    cases e2
    exact⟨u,r,.inr ⟨.inl hk,c,hc,hc'⟩⟩
   ·rw[List.getElem?_set_ne (Ne.symm hj)] at e2
    obtain⟨u',r',q⟩:=hl j y v' e1 e2 e3
    refine⟨u',r',?_⟩
    rcases q with q | ⟨k,c',e,z'⟩
    ·exact .inl q
    ·refine .inr ⟨k,c',e,z'.sameBut hs ?_⟩
     rintro rfl
     exact hj (zdw hN e1 (I.ok.inj _ _ _ e hc ▸ hi))
  ·by_cases hcc:c'=c
   ·subst hcc;exact⟨_,hc'⟩
   ·obtain⟨w2,z2⟩:=I.cell y c' e
    exact⟨w2,z2.sameBut hs hcc⟩
  ·obtain⟨e,n,ne,nf,d⟩:=I.pin p hp
   refine⟨(hs.2 p.1 ?_).trans e,n,ne,nf,d⟩
   intro q
   rw[q,hoc] at e
   have q':oc=p.2:=zuG e
   exact d w' (by rw[<-q'];exact zoF)
theorem JG {M:Model}{A:Around}{E:Value->Shared->Prop}{i:Nat}{x:Str}{v:V}{u:Value}{Q:Unit->Shared->Prop}(I:Inv X pins σ H s)(hN:X.N.Nodup)(hi:X.N[i]?=some x)(hx:Loc X.env.scope x)(r:RelV v u)
  (h:∀s',Inv X pins (σ.set i (some v)) H s'->Q () s')(hf:X.fn x=true\/X.env.scope.names.lookup x=some .local:=by first | exact .inl rfl | exact .inr rfl | assumption):wpAny M A (storeName X.env x u) Q E s :=
 zgT I hN hi hx r (fun s' I' _=>h s' I') hf
theorem Inv.call' {s':Shared}{ch:List Addr}(I:Inv X pins σ H s)(ho:s'.os=s.os)(u:Un (frs X.stack) ch H H' s.heap s'.heap)(hok:Rw X.prog X.w H' s'.heap)(hg:AllBare s'.gens)
  (hch:∀b∈ch,(b∈X.ex\/X.s₀.heap.objs.size<=b)/\b≠X.env.locals/\(∀x c,X.env.cells.lookup x=some c->c≠b)/\∀p∈X.pn++pins,p.1≠b):Inv X pins σ H' s':=by
 obtain⟨h',g',d',t',o'⟩:=s'
 have e:o'=s.os:=ho
 subst e
 exact I.call (g':=g') (t':=t') (d':=d') u hok hg hch
end
abbrev XK:=Value->Option Addr->Hp->Prop
abbrev St:=List (Option V)
abbrev VK:=V->Hp->Prop
abbrev TE:=St->Hp->VK->Prop
abbrev TT:=St->Hp->(Bool->Hp->Prop)->Prop
abbrev TA:=St->Hp->(List V->Hp->Prop)->Prop
structure Ends where
 nx:St->Hp->Prop
 rt:VK
 bk:St->Hp->Prop:=fun _ _=>False
 ct:St->Hp->Prop:=fun _ _=>False
abbrev TS:=Ends->St->Hp->Prop
def EP (X:Cx)(pins:List (Addr×Obj))(σ:St)(Q:VK)(u:Value)(s':Shared):Prop:=∃v H',Inv X pins σ H' s'/\RelV v u/\Q v H'
def TP (X:Cx)(pins:List (Addr×Obj))(σ:St)(Q:Bool->Hp->Prop)(b:Bool)(s':Shared):Prop:=∃H',Inv X pins σ H' s'/\Q b H'
def AP (X:Cx)(pins:List (Addr×Obj))(σ:St)(Q:List V->Hp->Prop)(us:List Value)(s':Shared):Prop:=∃vs H',Inv X pins σ H' s'/\Vals vs us/\Q vs H'
def SP (X:Cx)(pins:List (Addr×Obj))(D:Ends)(f:Flow)(s':Shared):Prop :=
 match f with
 | .next=>∃ σ' H',Inv X pins σ' H' s'/\D.nx σ' H'
 | .brk=>∃ σ' H',Inv X pins σ' H' s'/\D.bk σ' H'
 | .cont=>∃ σ' H',Inv X pins σ' H' s'/\D.ct σ' H'
 | .ret u=>∃v σ' H',Inv X pins σ' H' s'/\RelV v u/\D.rt v H'
def PE (X:Cx)(e:Expr)(t:TE):Prop :=
 ∀(pins:List (Addr×Obj)) (s:Shared) (σ:St) (H:Hp) (Q:VK),Inv X pins σ H s->t σ H Q->wpAny (model X.prog X.w) X.A (eval e X.env) (EP X pins σ Q) X.xe s
def PT (X:Cx)(e:Expr)(t:TT):Prop :=
 ∀(pins:List (Addr×Obj)) (s:Shared) (σ:St) (H:Hp) (Q:Bool->Hp->Prop),Inv X pins σ H s->t σ H Q->wpAny (model X.prog X.w) X.A (isTrue e X.env (eval e X.env)) (TP X pins σ Q) X.xe s
def PW (X:Cx)(e:Expr)(t:TT):Prop :=
 ∀(whole:Sem Value) (pins:List (Addr×Obj)) (s:Shared) (σ:St) (H:Hp) (Q:Bool->Hp->Prop),Inv X pins σ H s->t σ H Q->wpAny (model X.prog X.w) X.A (isTrue e X.env whole) (TP X pins σ Q) X.xe s
theorem PW.pt {X:Cx}{e:Expr}{t:TT}(h:PW X e t):PT X e t:=h _
def PA (X:Cx)(es:List Expr)(t:TA):Prop :=
 ∀(pos:Pos) (pins:List (Addr×Obj)) (s:Shared) (σ:St) (H:Hp) (Q:List V->Hp->Prop),Inv X pins σ H s->t σ H Q->wpAny (model X.prog X.w) X.A (spliced (backTo pos (starEach es X.env))) (AP X pins σ Q) X.xe s
def PS (X:Cx)(st:Stmt)(t:TS):Prop :=
 ∀(pins:List (Addr×Obj)) (s:Shared) (σ:St) (H:Hp) (D:Ends),Inv X pins σ H s->t D σ H->wpAny (model X.prog X.w) X.A (exec st X.env) (SP X pins D) X.xe s
def PSs (X:Cx)(st:List Stmt)(t:TS):Prop :=
 ∀(pins:List (Addr×Obj)) (s:Shared) (σ:St) (H:Hp) (D:Ends),Inv X pins σ H s->t D σ H->wpAny (model X.prog X.w) X.A (execs st X.env) (SP X pins D) X.xe s
theorem wM {α:Type}{t:Sem α}{Q Q':α->Shared->Prop}{M:Model}{A:Around}{E:Value->Shared->Prop}{s:Shared}(h:wpAny M A t Q E s)(hQ:∀a s,Q a s->Q' a s):wpAny M A t Q' E s:=wpAny_mono h hQ fun _ _ x=>x
section
variable {X:Cx}
theorem bin {a b:Expr}{ta tb:TE}(ha:PE X a ta)(hb:PE X b tb){pins:List (Addr×Obj)}{s:Shared}{σ:St}{H:Hp}{R:V->V->Hp->Prop}(I:Inv X pins σ H s)(h:ta σ H fun x H1=>tb σ H1 fun y H2=>R x y H2)
  {α:Type}{Q:α->Shared->Prop}{f:Value->Value->Sem α}
  (hf:∀v u s2 x y H2,Inv X pins σ H2 s2->RelV x v->RelV y u->R x y H2->wpAny (model X.prog X.w) X.A (f v u) Q X.xe s2) :
  wpAny (model X.prog X.w) X.A (eval a X.env) (fun v s₁=>wpAny (model X.prog X.w) X.A (eval b X.env) (fun u s₂=>wpAny (model X.prog X.w) X.A (f v u) Q X.xe s₂) X.xe s₁) X.xe s:=by
 refine wM (ha pins s σ H _ I h) fun v s1 ⟨x,H1,I1,r1,q1⟩=>?_
 refine wM (hb pins s1 σ H1 _ I1 q1) fun u s2 ⟨y,H2,I2,r2,q2⟩=>?_
 exact hf v u s2 x y H2 I2 r1 r2 q2
def JH (i:Nat):TE:=fun σ H Q=>∃v,σ[i]?=some (some v)/\Q v H
def tC (v:V):TE:=fun _ H Q=>Q v H
theorem zll {i:Nat}{x:Str}{pos:Pos}(hN:X.N[i]?=some x)(hv:Vis X.env.scope x)(hd:(x==("__debug__" : Str))=false:=by decide)(hcd:(x==("__classdict__" : Str))=false:=by decide):PE X (.Name x pos) (JH i):=by
 intro pins s σ H Q I h
 obtain⟨v,e,h⟩:=h
 obtain⟨m,hn,hl⟩:=I.loc
 obtain⟨u,r,l⟩:=hl i x v hN e hv
 have fin:EP X pins σ Q u s:=⟨v,H,I,r,h⟩
 rcases l with ⟨hk,hm⟩ | ⟨hk,c,hc,hcell⟩
 ·exact wpAny_Name (wpAny_loadName_local I.ok.kind hk hn hm fin) hd
 ·rcases hk with hk | hk
  ·exact wpAny_Name (wpAny_loadName_cell I.ok.kind hk hc hcell fin) hd
  ·exact wpAny_Name (wpAny_loadName_free I.ok.kind hk hc hcell fin hcd) hd
theorem zq {i j pos}:PE X (.Constant (.int i) j pos) (tC (.int i)):=fun _ _ _ H _ I h=>wpAny_Constant_int ⟨.int i,H,I.tok _,⟨_,rfl⟩,h⟩
theorem Ut {b j pos}:PE X (.Constant (.bool b) j pos) (tC (.bl b)):=fun _ _ _ H _ I h=>Constant_bool ⟨.bl b,H,I,rfl,h⟩
theorem Vq {j pos}:PE X (.Constant .none j pos) (tC .non):=fun _ _ _ H _ I h=>Constant_none ⟨.non,H,I,rfl,h⟩
theorem vd {x j pos}:PE X (.Constant (.str x) j pos) (tC (.str x)):=fun _ _ _ H _ I h=>Calls.Constant_str ⟨.str x,H,I.tok _,⟨_,rfl⟩,h⟩
def Gl (X:Cx)(x:Str):Prop:=X.env.kindOf x=some .globalImplicit
theorem zcw {E:Value->Shared->Prop}{pins:List (Addr×Obj)}{s:Shared}{σ:St}{H:Hp}{x:Str}{u:Value}{pos:Pos}{Q:Value->Shared->Prop}(I:Inv X pins σ H s)(hg:Gl X x)(hm:X.mg x=some u)(h:Q u s)
  (hd:(x==("__debug__" : Str))=false:=by decide):wpAny (model X.prog X.w) X.A (eval (.Name x pos) X.env) Q E s :=
 Calls.Name_function_global I.ok.kind hg (Calls.loadGlobal_global (by rw[I.ok.glob];exact I.mod.glob.keeps I.bk) hm h) hd
theorem Vr {E:Value->Shared->Prop}{pins:List (Addr×Obj)}{s:Shared}{σ:St}{H:Hp}{x:Str}{u:Value}{pos:Pos}{Q:Value->Shared->Prop}(I:Inv X pins σ H s)(hg:Gl X x)(hm:X.mg x=none)(hv:bootBuiltins x=some u)(h:Q u s)
  (hn:x ≠ "__name__" := by decide)(hd:(x==("__debug__" : Str))=false:=by decide):wpAny (model X.prog X.w) X.A (eval (.Name x pos) X.env) Q E s:=by
 obtain⟨mb,h1,h2⟩:=I.mod.blt
 exact Calls.Name_function_global I.ok.kind hg (Calls.loadGlobal_builtin (by rw[I.ok.glob];exact I.mod.glob.keeps I.bk) hm (by rw[I.ok.blt];exact h1.keeps I.bk) ((h2 x hn).trans hv) h) hd
theorem Wb {x:Str}{v:V}{u:Value}{pos:Pos}(hg:Gl X x)(hm:X.mg x=some u)(r:RelV v u)(hd:(x==("__debug__" : Str))=false:=by decide):PE X (.Name x pos) (tC v) :=
 fun _ _ _ H _ I h=>zcw I hg hm ⟨v,H,I,r,h⟩ hd
theorem zf7 {x:Str}{v:V}{u:Value}{pos:Pos}(hg:Gl X x)(hm:X.mg x=none)(hv:bootBuiltins x=some u)(r:RelV v u)(hn:x ≠ "__name__" := by decide)(hd:(x==("__debug__" : Str))=false:=by decide):PE X (.Name x pos) (tC v) :=
 fun _ _ _ H _ I h=>Vr I hg hm hv ⟨v,H,I,r,h⟩ hn hd
variable {a b:Expr}{ta tb:TE}{pos:Pos}
def PC (X:Cx)(op:CmpOp)(a b:Expr)(t:TE):Prop :=
 ∀(pins:List (Addr×Obj)) (s:Shared) (σ:St) (H:Hp) (Q:VK),Inv X pins σ H s->t σ H Q ->
  wpAny (model X.prog X.w) X.A (eval a X.env) (fun v s₁=>wpAny (model X.prog X.w) X.A (eval b X.env) (fun u s₂=>wpAny (model X.prog X.w) X.A (compareOp op v u) (EP X pins σ Q) X.xe s₂) X.xe s₁) X.xe s
def tB (t:TE):TT:=fun σ H Q=>t σ H fun x H1=>∃c,x=.bl c/\Q c H1
theorem zh7 {op:CmpOp}{t:TE}(h:PC X op a b t)(h1:behindInMarks op b=false:=by first | exact zmK _ (by decide) (by decide) | rfl):PT X (.Compare a [op] [b] pos) (tB t):=by
 intro pins s σ H Q I hw
 refine wpAny_isTrue_Compare1 (wM (h pins s σ H _ I hw) fun v s1 h1=>wM h1 fun u s2 h2=>wM h2 fun c s3 ⟨x,H1,I1,r1,q1⟩=>?_) h1
 obtain⟨d,rfl,q⟩:=q1
 cases r1
 exact wpAny_truthy_bool ⟨H1,I1,q⟩
variable {tA tB':TT}{rest:List Expr}
def zoG (t u:TT):TT:=fun σ H Q=>t σ H fun c H1=>if c=true then u σ H1 Q else Q false H1
def tOr (t u:TT):TT:=fun σ H Q=>t σ H fun c H1=>if c=true then Q true H1 else u σ H1 Q
def zoH (t:TT):TT:=fun σ H Q=>t σ H fun c H1=>Q (!c) H1
theorem zcx (ha:PT X a tA):PW X (.BoolOp .And [a] pos) tA:=by
 intro wh pins s σ H Q I h
 refine isTrue_and (wM (ha pins s σ H Q I h) fun c s1 e=>?_)
 cases c with
 | true=>exact isTrue_and_nil e
 | false=>exact e
theorem U4 (ha:PT X a tA):PW X (.BoolOp .Or [a] pos) tA:=by
 intro wh pins s σ H Q I h
 refine isTrue_or (wM (ha pins s σ H Q I h) fun c s1 e=>?_)
 cases c with
 | false=>exact isTrue_or_nil e
 | true=>exact e
theorem zeO (ha:PT X a tA)(hb:PW X (.BoolOp .And (b::rest) pos) tB'):PW X (.BoolOp .And (a::b::rest) pos) (zoG tA tB'):=by
 intro wh pins s σ H Q I h
 refine isTrue_and (wM (ha pins s σ H _ I h) fun c s1 ⟨H1,I1,q1⟩=>?_)
 cases c with
 | true=>exact hb wh pins s1 σ H1 Q I1 q1
 | false=>exact⟨H1,I1,q1⟩
theorem QL (ha:PT X a tA)(hb:PW X (.BoolOp .Or (b::rest) pos) tB'):PW X (.BoolOp .Or (a::b::rest) pos) (tOr tA tB'):=by
 intro wh pins s σ H Q I h
 refine isTrue_or (wM (ha pins s σ H _ I h) fun c s1 ⟨H1,I1,q1⟩=>?_)
 cases c with
 | true=>exact⟨H1,I1,q1⟩
 | false=>exact hb wh pins s1 σ H1 Q I1 q1
theorem U5 (ha:PT X a tA):PT X (.UnaryOp .Not a pos) (zoH tA):=by
 intro pins s σ H Q I h
 exact isTrue_not (ha pins s σ H (fun c H1=>Q (!c) H1) I h)
def zmL (ta tb:TE):TE:=fun σ H Q=>ta σ H fun x H1=>∃c,x=.bl c/\if c=true then tb σ H1 Q else Q (.bl false) H1
theorem zcy {op}{t:TE}(h:PE X a t):PE X (.BoolOp op [a] pos) t:=fun pins s σ H Q I hw=>BoolOp_one (h pins s σ H Q I hw)
theorem JK (ha:PE X a ta)(hb:PE X (.BoolOp .And (b::rest) pos) tb):PE X (.BoolOp .And (a::b::rest) pos) (zmL ta tb):=by
 intro pins s σ H Q I h
 refine BoolOp_and (wM (ha pins s σ H _ I h) fun v s1 ⟨x,H1,I1,r1,q1⟩=>?_)
 obtain⟨c,rfl,q1⟩:=q1
 cases r1
 refine wpAny_truthy_bool ?_
 cases c with
 | true=>exact hb pins s1 σ H1 Q I1 q1
 | false=>exact⟨.bl false,H1,I1,rfl,q1⟩
def tIf (t:TT)(ta tb:TE):TE:=fun σ H Q=>t σ H fun c H1=>if c=true then ta σ H1 Q else tb σ H1 Q
theorem zh8 {c:Expr}(hc:PT X c tA)(ha:PE X a ta)(hb:PE X b tb):PE X (.IfExp c a b pos) (tIf tA ta tb):=by
 intro pins s σ H Q I h
 refine wpAny_IfExp (wM (hc pins s σ H _ I h) fun d s1 ⟨H1,I1,q1⟩=>?_)
 cases d with
 | true=>exact ha pins s1 σ H1 Q I1 q1
 | false=>exact hb pins s1 σ H1 Q I1 q1
end
def zT (K:Frag)(H:Hp)(a:Addr)(xs:List V):Prop :=
 Rd H a (.lst xs) \/
  ∃(o:Obj) (its:Array Value) (n:Nat),K.lookup a=some o/\o.cls=.type "list" /\ o.dict=none/\o.data=.seq its n/\its.size<=sizeLine/\Vals xs its.toList
def wK (K:Frag)(H:Hp)(a:Addr)(xs:List V):Prop :=
 Rd H a (.tup xs) \/
  ∃(o:Obj) (its:Array Value) (n:Nat),K.lookup a=some o/\o.cls=.type "tuple" /\ o.data=.seq its n/\its.size<=sizeLine/\Vals xs its.toList
def Rx:Value->Option V
 | .none=>some .non
 | .bool b=>some (.bl b)
 | .int i _=>some (.int i)
 | .str x _=>some (.str x)
 | .bytes b _=>some (.byt b)
 | .float b _=>some (.flt b)
 | .ref a=>some (.ref a)
 | .type n=>some (.ty n)
 | _=>none
theorem RelV.abs {x:V}{u:Value}(r:RelV x u):Rx u=some x:=by
 cases x with
 | non=>cases r;rfl
 | bl _=>cases r;rfl
 | int _=>obtain⟨t,rfl⟩:=r;rfl
 | str _=>obtain⟨t,rfl⟩:=r;rfl
 | byt _=>obtain⟨t,rfl⟩:=r;rfl
 | flt _=>obtain⟨t,rfl⟩:=r;rfl
 | ref _=>cases r;rfl
 | ty _=>cases r;rfl
theorem RelV.inj {x y:V}{u:Value}(r:RelV x u)(q:RelV y u):x=y:=zuG (r.abs.symm.trans q.abs)
theorem Vals.inj:∀{xs ys:List V} {us:List Value},Vals xs us->Vals ys us->xs=ys
 | _,_,_,.nil,.nil=>rfl
 | _,_,_,.cons r t,.cons r' t'=>by rw[r.inj r',Vals.inj t t']
section
variable {X:Cx}{pins:List (Addr×Obj)}{σ:St}{H:Hp}{s:Shared}{a:Addr}{xs ys:List V}
theorem zT.of {K:Frag}(h:H a=some (.lst xs)):zT K H a xs:=.inl (.inl h)
theorem wK.of {K:Frag}(h:H a=some (.tup xs)):wK K H a xs:=.inl (.inl h)
theorem Inv.list (I:Inv X pins σ H s)(h:zT X.K H a xs):∃its:List Value,Vals xs its/\PlainL s.heap a its.toArray/\xs.length<=sizeLine:=by
 rcases h with h | ⟨o,its,n,hk,hc,hd,hs,hz,r⟩
 ·obtain⟨z,its,n,r,e⟩:=h.ok I.hok
  exact⟨its,r,⟨_,n,e,rfl,rfl,rfl⟩,z⟩
 ·refine⟨its.toList,r,⟨o,n,I.NK a o hk,hc,hd,by simpa using hs⟩,?_⟩
  have e:=r.length
  simp only[Array.length_toList] at e
  omega
theorem Inv.tuple (I:Inv X pins σ H s)(h:wK X.K H a xs):∃its:List Value,Vals xs its/\IsTup s.heap a its.toArray/\xs.length<=sizeLine:=by
 rcases h with h | ⟨o,its,n,hk,hc,hs,hz,r⟩
 ·obtain⟨z,its,r,p⟩:=h.ok I.hok
  exact⟨its,r,p,z⟩
 ·refine⟨its.toList,r,⟨o,I.NK a o hk,hc,n,by simpa using hs⟩,?_⟩
  have e:=r.length
  simp only[Array.length_toList] at e
  omega
theorem Inv.Xr (I:Inv X pins σ H s)(h:zT X.K H a xs)(h':zT X.K H a ys):xs=ys:=by
 obtain⟨its,r,⟨o,n,e,_,_,d⟩,_⟩:=I.list h
 obtain⟨its',r',⟨o',n',e',_,_,d'⟩,_⟩:=I.list h'
 rw[e] at e';cases e'
 rw[d] at d'
 injection d' with d1 _
 have:its=its':=by simpa using congrArg Array.toList d1
 subst this
 exact r.inj r'
theorem Inv.zbH (I:Inv X pins σ H s)(h:wK X.K H a xs)(h':wK X.K H a ys):xs=ys:=by
 obtain⟨its,r,⟨o,e,_,n,d⟩,_⟩:=I.tuple h
 obtain⟨its',r',⟨o',e',_,n',d'⟩,_⟩:=I.tuple h'
 rw[e] at e';cases e'
 rw[d] at d'
 injection d' with d1 _
 have:its=its':=by simpa using congrArg Array.toList d1
 subst this
 exact r.inj r'
end
abbrev Cx.wish (X:Cx)(E:Value->Shared->Prop):Cx:={ X with xe:=E }
abbrev Cx.nox (X:Cx):Cx:=X.wish fun _ _=>False
theorem Cx.Ok.wish {X:Cx}(ok:X.Ok)(E:Value->Shared->Prop):(X.wish E).Ok :=
 ⟨ok.mod,ok.kind,ok.glob,ok.blt,ok.above,ok.inj,ok.has,ok.cab,ok.hd,ok.frames,ok.stk,ok.exf,ok.bs,ok.bsz,ok.zgR,ok.zgS,ok.Nz,ok.frf⟩
theorem Cx.Ok.U6 {X:Cx}{E:Value->Shared->Prop}(ok:(X.wish E).Ok):X.Ok :=
 ⟨ok.mod,ok.kind,ok.glob,ok.blt,ok.above,ok.inj,ok.has,ok.cab,ok.hd,ok.frames,ok.stk,ok.exf,ok.bs,ok.bsz,ok.zgR,ok.zgS,ok.Nz,ok.frf⟩
section
variable {X:Cx}{pins:List (Addr×Obj)}{σ:St}{H:Hp}{s:Shared}{E:Value->Shared->Prop}
theorem Inv.wish (I:Inv X pins σ H s)(E:Value->Shared->Prop):Inv (X.wish E) pins σ H s:=⟨I.ok.wish E,I.os,I.bare,I.base,I.loc,I.cell,I.free,I.U3,I.pin,I.hok,I.len⟩
theorem Inv.U6 (I:Inv (X.wish E) pins σ H s):Inv X pins σ H s:=⟨I.ok.U6,I.os,I.bare,I.base,I.loc,I.cell,I.free,I.U3,I.pin,I.hok,I.len⟩
theorem SP.U6 {D:Ends}{f:Flow}{s':Shared}(h:SP (X.wish E) pins D f s'):SP X pins D f s':=by
 cases f with
 | next=>obtain⟨σ',H',I,q⟩:=h;exact⟨σ',H',I.U6,q⟩
 | brk=>obtain⟨σ',H',I,q⟩:=h;exact⟨σ',H',I.U6,q⟩
 | cont=>obtain⟨σ',H',I,q⟩:=h;exact⟨σ',H',I.U6,q⟩
 | ret u=>obtain⟨v,σ',H',I,r,q⟩:=h;exact⟨v,σ',H',I.U6,r,q⟩
theorem PSs.nox {st:List Stmt}{t:TS}(h:PSs X.nox st t):PSs X st t:=fun pins s σ H D I hw =>
 wpAny_mono (h pins s σ H D (I.wish _) hw) (fun _ _ q=>q.U6) fun _ _ z=>False.elim z
end
section
variable {X:Cx}{st:Stmt}{rest:List Stmt}{t u:TS}{e:Expr}{te:TE}{pos:Pos}
def zmM:TS:=fun D σ H=>D.nx σ H
def zoI (t u:TS):TS:=fun D σ H=>t { D with nx:=u D } σ H
theorem zY:PSs X [] zmM:=fun _ _ σ H _ I h=>wpAny_execs_nil ⟨σ,H,I,h⟩
theorem zj (h1:PS X st t)(h2:PSs X rest u):PSs X (st::rest) (zoI t u):=by
 intro pins s σ H D I h
 refine wpAny_execs_cons (wM (h1 pins s σ H { D with nx:=u D } I h) fun f s1 q=>?_)
 cases f with
 | next =>
  obtain⟨σ',H',I',q⟩:=q
  exact h2 pins s1 σ' H' D I' q
 | ret v=>exact q
 | brk=>exact q
 | cont=>exact q
theorem zu (h1:PS X st t):PSs X [st] t:=by
 intro pins s σ H D I h
 refine wpAny_execs_cons (wM (h1 pins s σ H D I h) fun f s1 q=>?_)
 cases f with
 | next=>exact wpAny_execs_nil q
 | ret v=>exact q
 | brk=>exact q
 | cont=>exact q
theorem Inv.quiet {pins:List (Addr×Obj)}{σ:St}{H:Hp}{s:Shared}(I:Inv X pins σ H s):interactive X.env=false:=by simp[interactive,I.ok.kind]
def zmN (te:TE):TS:=fun D σ H=>te σ H fun _ H1=>D.nx σ H1
theorem yq (he:PE X e te)(hs:swapsWith e none pos.line X.env=pure false:=by rfl):PS X (.Expr e pos) (zmN te):=by
 intro pins s σ H D I h
 exact wpAny_Expr_any (wM (he pins s σ H _ I h) fun v s1 ⟨x,H1,I1,r1,q1⟩=>⟨σ,H1,I1,q1⟩) I.quiet hs
def zoJ (te:TE):TS:=fun D σ H=>te σ H D.rt
theorem zH (he:PE X e te):PS X (.Return (some e) pos) (zoJ te):=by
 intro pins s σ H D I h
 exact wpAny_Return_some (wM (he pins s σ H _ I h) fun v s1 ⟨x,H1,I1,r1,q1⟩=>⟨x,σ,H1,I1,r1,q1⟩)
def zoK (c:TT)(t u:TS):TS:=fun D σ H=>c σ H fun b H1=>if b=true then t D σ H1 else u D σ H1
theorem yN {c:Expr}{a b:List Stmt}{tc:TT}(hc:PT X c tc)(ha:PSs X a t)(hb:PSs X b u):PS X (.If c a b pos) (zoK tc t u):=by
 intro pins s σ H D I h
 refine wpAny_If (wM (hc pins s σ H _ I h) fun d s1 ⟨H1,I1,q1⟩=>?_)
 cases d with
 | true=>exact ha pins s1 σ H1 D I1 q1
 | false=>exact hb pins s1 σ H1 D I1 q1
def zlm:TS:=fun _ _ _=>False
theorem Xu:PS X st zlm:=fun _ _ _ _ _ _ h=>h.elim
end
abbrev TG:=V->St->Hp->(St->Hp->Prop)->Prop
abbrev TGs:=List V->St->Hp->(St->Hp->Prop)->Prop
def PG (X:Cx)(target:Expr)(t:TG):Prop :=
 ∀(pins:List (Addr×Obj)) (s:Shared) (σ:St) (H:Hp) (v:V) (u:Value) (Q:St->Hp->Prop),Inv X pins σ H s->RelV v u->t v σ H Q ->
  wpAny (model X.prog X.w) X.A (assign target X.env u) (fun _ s'=>∃ σ' H',Inv X pins σ' H' s'/\Q σ' H') X.xe s
def PGs (X:Cx)(ts:List Expr)(t:TGs):Prop :=
 ∀(pins:List (Addr×Obj)) (s:Shared) (σ:St) (H:Hp) (vs:List V) (us:List Value) (Q:St->Hp->Prop),Inv X pins σ H s->Vals vs us->t vs σ H Q ->
  wpAny (model X.prog X.w) X.A (assignInOrder ((assignEach ts X.env).map (·.2)) us) (fun _ s'=>∃ σ' H',Inv X pins σ' H' s'/\Q σ' H') X.xe s
abbrev zlo:=V->V->V->Hp->(Hp->Prop)->Prop
def zmO (X:Cx)(t:zlo):Prop :=
 ∀(pins:List (Addr×Obj)) (s:Shared) (σ:St) (H:Hp) (o i v:V) (ov iv u:Value) (Q:Hp->Prop),Inv X pins σ H s->RelV o ov->RelV i iv->RelV v u->t o i v H Q ->
  wpAny (model X.prog X.w) X.A (setItem ov iv u) (fun _ s'=>∃H',Inv X pins σ H' s'/\Q H') X.xe s
abbrev TIp:=V->V->Hp->VK->Prop
def PIp (X:Cx)(op:Operator)(t:TIp):Prop :=
 ∀(pins:List (Addr×Obj)) (s:Shared) (σ:St) (H:Hp) (x y:V) (v u:Value) (Q:VK),Inv X pins σ H s->RelV x v->RelV y u->t x y H Q ->
  wpAny (model X.prog X.w) X.A (inplaceOp op v u) (EP X pins σ Q) X.xe s
section
variable {X:Cx}{pos:Pos}
def Uu (i:Nat):TG:=fun v σ H Q=>Q (σ.set i (some v)) H
theorem yR {i:Nat}{x:Str}(hN:X.N.Nodup)(hi:X.N[i]?=some x)(hx:Loc X.env.scope x)(hf:X.fn x=true\/X.env.scope.names.lookup x=some .local:=by first | exact .inl rfl | exact .inr rfl | assumption):PG X (.Name x pos) (Uu i):=by
 intro pins s σ H v u Q I r h
 exact wpAny_assign_Name (JG I hN hi hx r (fun s' I'=>⟨_,H,I',h⟩) hf)
def zjA:TGs:=fun vs σ H Q=>vs=[]/\Q σ H
def JL (t:TG)(u:TGs):TGs:=fun vs σ H Q=>∃v r,vs=v::r/\t v σ H fun σ' H'=>u r σ' H' Q
theorem QM:PGs X [] zjA:=by
 intro pins s σ H vs us Q I r h
 obtain⟨e,h⟩:=h
 subst e
 cases r
 exact assignInOrder_nil ⟨σ,H,I,h⟩
theorem uR {e:Expr}{es:List Expr}{t:TG}{u:TGs}(h1:PG X e t)(h2:PGs X es u)
  (hs:(assignEach (e::es) X.env).map (·.2)=assign e X.env::(assignEach es X.env).map (·.2):=by rfl):PGs X (e::es) (JL t u):=by
 intro pins s σ H vs us Q I r h
 obtain⟨v,vr,e1,h⟩:=h
 subst e1
 cases r with
 | cons r rr =>
  rw[hs]
  refine assignInOrder_cons (wM (h1 pins s σ H _ _ _ I r h) fun _ s1 ⟨σ1,H1,I1,q1⟩=>?_)
  exact h2 pins s1 σ1 H1 _ _ Q I1 rr q1
def zjB (K:Frag)(n:Nat)(t:TGs):TG:=fun v σ H Q=>∃a xs,v=.ref a/\wK K H a xs/\xs.length=n/\t xs σ H Q
theorem JM {es:List Expr}{k:Nat}{t:TGs}{n:Nat}(hc:X.calm=true)(h:PGs X es t)
  (hn:(assignEach es X.env).length=n:=by rfl)(hst:(assignEach es X.env).findIdx? (·.1)=none:=by rfl):PG X (.Tuple es k pos) (zjB X.K n t):=by
 intro pins s σ H v u Q I r hw
 obtain⟨a,xs,e1,hq,hl,hw⟩:=hw
 subst e1
 cases r
 obtain⟨its,rv,ht,hz⟩:=I.tuple hq
 refine assign_Tuple_tuple (I.ok.hd hc) ht (by simp[hn,<-hl,rv.length]) hst fun h' hx=>?_
 have I1:Inv X pins σ H { s with heap:=h' }:=I.kept (t':=s.toks) fun b o e=>hx b o (zur (zuj e)) e
 exact h pins _ σ H xs _ Q I1 (by simpa using rv) hw
def zoM (to ti:TE)(t:zlo):TG:=fun v σ H Q=>to σ H fun o H1=>ti σ H1 fun i H2=>t o i v H2 fun H3=>Q σ H3
theorem zlp {o i:Expr}{to ti:TE}{t:zlo}(ho:PE X o to)(hi:PE X i ti)(hs:zmO X t)
  (ha:∀v,assign (.Subscript o i pos) X.env v=(do
   let ov <-holding [v] (eval o X.env)
   let iv <-holding [v,ov] (eval i X.env)
   standAt pos
   holding [v,ov,iv] (setItem ov iv v)
   release [v,ov,iv] []):=by intro _;rfl):PG X (.Subscript o i pos) (zoM to ti t):=by
 intro pins s σ H v u Q I r h
 rw[ha]
 refine wpAny_bind (wpAny_holding (wM (ho pins s σ H _ I h) fun ov s1 ⟨x,H1,I1,r1,q1⟩=>?_))
 refine wpAny_bind (wpAny_holding (wM (hi pins s1 σ H1 _ I1 q1) fun iv s2 ⟨y,H2,I2,r2,q2⟩=>?_))
 refine wpAny_bind (wpAny_standAt (wpAny_bind (wpAny_holding (wM (hs pins s2 σ H2 x y v ov iv u _ I2 r1 r2 r q2) fun _ s3 ⟨H3,I3,q3⟩=>?_))))
 exact wpAny_release ⟨σ,H3,I3,q3⟩
def zlq (te:TE)(g:TG):TS:=fun D σ H=>te σ H fun x H1=>g x σ H1 D.nx
theorem zlr {tg e:Expr}{te:TE}{g:TG}(he:PE X e te)(hg:PG X tg g)(hs:swapsWithSole [tg] e pos.line X.env=pure false:=by rfl)(hw:swappedStores [tg] e X.env=pure none:=by rfl)
  (h1:(assignEach [tg] X.env).map (·.2)=[assign tg X.env]:=by rfl):PS X (.Assign [tg] e pos) (zlq te g):=by
 intro pins s σ H D I h
 refine wpAny_Assign_stores (wM (he pins s σ H _ I h) fun v s1 ⟨x,H1,I1,r1,q1⟩=>?_) hs hw
 rw[h1]
 exact wM (hg pins s1 σ H1 x v _ I1 r1 q1) fun _ s2 q=>q
theorem zN {i:Nat}{x:Str}{e:Expr}{te:TE}{pos':Pos}(hN:X.N.Nodup)(hi:X.N[i]?=some x)(hx:Loc X.env.scope x)(he:PE X e te)(hs:swapsWith e (some (.Name x pos')) pos.line X.env=pure false:=by rfl)(hf:X.fn x=true\/X.env.scope.names.lookup x=some .local:=by first | exact .inl rfl | exact .inr rfl | assumption) :
  PS X (.Assign [.Name x pos'] e pos) (zlq te (Uu i)):=by
 intro pins s σ H D I h
 refine wpAny_Assign_Name (wM (he pins s σ H _ I h) fun v s1 ⟨y,H1,I1,r1,q1⟩=>?_) hs
 exact JG I1 hN hi hx r1 (fun s2 I2=>⟨_,H1,I2,q1⟩) hf
def zoN (i:Nat)(te:TE)(ti:TIp):TS:=fun D σ H=>∃x,σ[i]?=some (some x)/\te σ H fun y H1=>ti x y H1 fun z H2=>D.nx (σ.set i (some z)) H2
theorem zeP {i:Nat}{x:Str}{e:Expr}{te:TE}{op:Operator}{ti:TIp}{pos':Pos}(hN:X.N.Nodup)(hi:X.N[i]?=some x)(hx:Loc X.env.scope x)(he:PE X e te)(ho:PIp X op ti)(hf:X.fn x=true\/X.env.scope.names.lookup x=some .local:=by first | exact .inl rfl | exact .inr rfl | assumption) :
  PS X (.AugAssign (.Name x pos') op e pos) (zoN i te ti):=by
 intro pins s σ H D I h
 obtain⟨v,e1,h⟩:=h
 obtain⟨m,hn,hl⟩:=I.loc
 have vis:Vis X.env.scope x:=by rcases hx with k | k;exact .inl k;exact .inr (.inl k)
 obtain⟨u,r,l⟩:=hl i x v hi e1 vis
 refine wpAny_AugAssign_Name ?_
 have go:wpAny (model X.prog X.w) X.A (eval e X.env) (fun w s₂=>wpAny (model X.prog X.w) X.A (inplaceOp op u w) (fun r s₃=>wpAny (model X.prog X.w) X.A (storeName X.env x r) (fun _=>SP X pins D .next) X.xe s₃) X.xe s₂) X.xe s:=by
  refine wM (he pins s σ H _ I h) fun w s1 ⟨y,H1,I1,r1,q1⟩=>?_
  refine wM (ho pins s1 σ H1 v y u w _ I1 r r1 q1) fun z s2 ⟨zv,H2,I2,r2,q2⟩=>?_
  exact JG I2 hN hi hx r2 (fun s3 I3=>⟨_,H2,I3,q2⟩) hf
 rcases l with ⟨hk,hm⟩ | ⟨hk,c,hc,hcell⟩
 ·exact wpAny_loadName_local I.ok.kind hk hn hm go
 ·rcases hk with hk | hk
  ·exact wpAny_loadName_cell I.ok.kind hk hc hcell go
  ·rcases hx with k | k
   ·have:X.env.scope.names.lookup x=some .free:=hk
    rw[k] at this;cases this
   ·have:X.env.scope.names.lookup x=some .free:=hk
    rw[k] at this;cases this
def zls (c:TT)(tb:TS):TS:=fun D σ H=>∃W:Nat->St->Hp->Prop,(∃m,W m σ H)/\∀m σ H,W m σ H ->
 c σ H fun b H1=>if b=true then ∃N:St->Hp->Prop,(∀ σ' H',N σ' H'->∃m',m'<m/\W m' σ' H')/\tb { D with nx:=N,ct:=N,bk:=D.nx } σ H1 else D.nx σ H1
theorem QS {c:Expr}{body:List Stmt}{tc:TT}{tb:TS}(hp:PassesOwn (model X.prog X.w) X.A X.env X.xe)(hc:PT X c tc)(hb:PSs X body tb):PS X (.While c body [] pos) (zls tc tb):=by
 intro pins s σ H D I h
 obtain⟨W,⟨m0,w0⟩,turn⟩:=h
 refine wpAny_While (codeAny_whileLoop (fun n s'=>∃ σ' H',Inv X pins σ' H' s'/\W n σ' H') ?_ m0 ⟨σ,H,I,w0⟩)
 rintro n s1 ⟨σ1,H1,I1,w1⟩
 refine wpAny_passesOwn hp (wM (hc pins s1 σ1 H1 _ I1 (turn n σ1 H1 w1)) fun b s2 ⟨H2,I2,q2⟩=>?_)
 cases b with
 | true =>
  obtain⟨N,hN,q2⟩:=q2
  rw[if_pos rfl]
  refine wpAny_passesOwn hp (wM (hb pins s2 σ1 H2 _ I2 q2) fun f s3 q3=>?_)
  cases f with
  | next =>
   obtain⟨σ3,H3,I3,n3⟩:=q3
   obtain⟨m',hm,w3⟩:=hN σ3 H3 n3
   exact⟨m',hm,σ3,H3,I3,w3⟩
  | cont =>
   obtain⟨σ3,H3,I3,n3⟩:=q3
   obtain⟨m',hm,w3⟩:=hN σ3 H3 n3
   exact⟨m',hm,σ3,H3,I3,w3⟩
  | brk=>exact q3
  | ret v=>exact q3
 | false =>
  rw[if_neg zug]
  exact wpAny_execs_nil ⟨σ1,H2,I2,q2⟩
end
structure It where
 go:Nat->Hp->Prop
 Jb:Nat->Hp->V->Hp->Prop
 stop:Nat->Hp->Prop
def zbi (X:Cx)(pins:List (Addr×Obj))(H:Hp)(b:Addr):Prop :=
 H b=none/\b≠X.env.locals/\b∉X.fs/\(b∈X.ex\/X.s₀.heap.objs.size<=b)/\(∀x c,X.env.cells.lookup x=some c->c≠b)/\∀p∈X.pn++pins,p.1≠b
theorem Inv.zh9 {X:Cx}{pins:List (Addr×Obj)}{σ:St}{H H':Hp}{s:Shared}{b:Addr}(I:Inv X pins σ H s)(hb:s.heap.objs.size<=b)(hn:H' b=none):zbi X pins H' b:=by
 refine⟨hn,Nat.ne_of_gt (zul I.lt hb),I.zlj hb,.inr (zux I.sz hb),fun x c e z=>?_,fun p hp z=>?_⟩
 ·obtain⟨v,q⟩:=I.cell x c e
  exact absurd (zul q.lt (by rw[z];exact hb)) (Nat.lt_irrefl _)
 ·exact absurd (zul (zuj (I.pin p hp).1) (by rw[z];exact hb)) (Nat.lt_irrefl _)
abbrev Calm (X:Cx):Prop:=X.calm=true
structure Turn (P:Program)(w:World)(K:Frag)(tg:Expr)(J:It)(fp:List Addr)(it:Addr)(tn:Nat->Heap->Prop)(rd:Cx->Prop:=Calm):Prop where
 mem:it∈fp
 obj:∀i h,tn i h->∀b∈fp,∃o,h.get? b=some o/\∀v,o.data≠.cell v
 keep:∀i h h',tn i h->(∀b∈fp,∀o,h.get? b=some o->h'.get? b=some o)->tn i h'
 item:∀(X:Cx),X.prog=P->X.w=w->X.K=K->rd X->∀(i:Nat) (pins:List (Addr×Obj)) (s:Shared) (σ:St) (H:Hp) (E:Value->Shared->Prop),Inv X pins σ H s->(∀b∈fp,zbi X pins H b)->tn i s.heap->J.go i H ->
  wpAny (model P w) X.A (pyNext (.ref it)) (fun r s1=>∃u,r=some u /\
   wpAny (model P w) X.A (letOwnedTupleGo tg (.ref it) u) (fun _ s2=>∃x H',Inv X pins σ H' s2/\RelV x u/\J.Jb i H x H'/\tn (i+1) s2.heap/\∀b∈fp,H' b=none) E s1) E s
 done:∀(X:Cx),X.prog=P->X.w=w->X.K=K->rd X->∀(i:Nat) (pins:List (Addr×Obj)) (s:Shared) (σ:St) (H:Hp) (E:Value->Shared->Prop),Inv X pins σ H s->(∀b∈fp,zbi X pins H b)->tn i s.heap->J.stop i H ->
  wpAny (model P w) X.A (pyNext (.ref it)) (fun r s1=>r=none/\Inv X pins σ H s1) E s
 self:∀(A:Around) (i:Nat) (s:Shared) (Q:Value->Shared->Prop) (E:Value->Shared->Prop),tn i s.heap->Q (.ref it) s->wpAny (model P w) A (pyIter (.ref it)) Q E s
abbrev TI:=St->Hp->(It->Hp->Prop)->Prop
def zmP (rd:Cx->Prop)(X:Cx)(pins:List (Addr×Obj))(σ:St)(tg:Expr)(R:It->Hp->Prop)(itv:Value)(s2:Shared):Prop :=
 ∃(it:Addr) (fp:List Addr) (tn:Nat->Heap->Prop) (J:It) (H':Hp),itv=.ref it/\Inv X pins σ H' s2/\Turn X.prog X.w X.K tg J fp it tn rd/\tn 0 s2.heap/\(∀b∈fp,zbi X pins H' b)/\R J H'
abbrev PIE:=zmP Calm
def PIr (rd:Cx->Prop)(X:Cx)(tg iter:Expr)(wi:TI):Prop :=
 ∀(pins:List (Addr×Obj)) (s:Shared) (σ:St) (H:Hp) (R:It->Hp->Prop),Inv X pins σ H s->wi σ H R ->
  wpAny (model X.prog X.w) X.A (eval iter X.env) (fun v s1=>wpAny (model X.prog X.w) X.A (pyIter v) (zmP rd X pins σ tg R) X.xe s1) X.xe s
abbrev PI:=PIr Calm
theorem zia {M:Model}{A:Around}{E:Value->Shared->Prop}{s:Shared}{tg:Expr}{it:Addr}{u:Value}{o:Obj}{n:String}{vs:Array Value}{Q:Unit->Shared->Prop}(ho:s.heap.get? it=some o)(hc:o.cls=.type n)(hd:o.data=.fields vs)
  (hn:["enumerate", "zip", "dict_itemiterator", "dict_reverseitemiterator", "odict_iterator", "itertools.zip_longest", "itertools.pairwise"].contains n=false)(hQ:Q () s):wpAny M A (letOwnedTupleGo tg (.ref it) u) Q E s:=by
 unfold letOwnedTupleGo
 cases tg<;>first
  | exact wpAny_pure hQ
  | (cases u<;>first
    | exact wpAny_pure hQ
    | (refine wpAny_bind (wpAny_load ho ?_)
       rw[hc,hd]
       show wpAny M A (if (["enumerate", "zip", "dict_itemiterator", "dict_reverseitemiterator", "odict_iterator", "itertools.zip_longest", "itertools.pairwise"].contains n&&vs[0]?==some (rawInt _))=true then _ else _) Q E s
       rw[if_neg (by intro h;rw[hn,Bool.false_and] at h;cases h)]
       exact wpAny_pure hQ))
def Itl (K:Frag)(a:Addr):It :=
 ⟨fun i H=>∃xs x,zT K H a xs/\xs[i]?=some x,fun i H x H'=>H'=H/\∀xs,zT K H a xs->xs[i]?=some x,fun i H=>∃xs,zT K H a xs/\xs.length<=i⟩
def Itt (K:Frag)(a:Addr):It :=
 ⟨fun i H=>∃xs x,wK K H a xs/\xs[i]?=some x,fun i H x H'=>H'=H/\∀xs,wK K H a xs->xs[i]?=some x,fun i H=>∃xs,wK K H a xs/\xs.length<=i⟩
def Itr (lo:Int)(n:Nat):It:=⟨fun i _=>i<n,fun i H x H'=>H'=H/\x=.int (lo+i),fun i _=>n<=i⟩
theorem zgV {P:Program}{w:World}{K:Frag}{tg:Expr}(a it:Addr):Turn P w K tg (Itl K a) [it] it (fun i h=>h.IsListIter it a i) where
 mem:=by simp
 obj:=fun i h st b hb=>by
  have e:b=it:=by simpa using hb
  subst e
  obtain⟨o,e,c,d⟩:=st
  exact⟨o,e,fun v z=>by rw[d] at z;cases z⟩
 keep:=fun i h h' st k=>st.at fun o e=>k it (by simp) o e
 item:=by
  intro X hP hw hK hc i pins s σ H E I hf st hg
  subst hP hw hK
  obtain⟨xs,x,hq,hx⟩:=hg
  obtain⟨its,rv,p,hz⟩:=I.list hq
  obtain⟨u,hu,ru⟩:=rv.get hx
  obtain⟨f0,f1,f2,f3,f4,f5⟩:=hf it (by simp)
  refine wpAny_pyNext_list_item st p.isList (x:=u) (by simpa using hu) fun h' st' sb=>?_
  have I1:Inv X pins σ H { s with heap:=h' }:=I.turned (t':=s.toks) (fun b o hb e=>(sb.2 b hb).trans e) f0 f1 f3 f4 f5
  obtain⟨o,e,c,d⟩:=id st'
  exact⟨u,rfl,zia (s:={ s with heap:=h' }) e c d (by decide) ⟨x,H,I1,ru,⟨rfl,fun ys hy=>by rw[I.Xr hy hq];exact hx⟩,st',fun b hb=>(hf b hb).1⟩⟩
 done:=by
  intro X hP hw hK hc i pins s σ H E I hf st hg
  subst hP hw hK
  obtain⟨xs,hq,hx⟩:=hg
  obtain⟨its,rv,p,hz⟩:=I.list hq
  obtain⟨f0,f1,f2,f3,f4,f5⟩:=hf it (by simp)
  have hl:=rv.length
  exact wpAny_pyNext_list_end (I.ok.hd hc) st p.isList (by simp;omega) fun h' eb=>⟨rfl,I.turned (t':=s.toks) (fun b o hb e=>eb b o hb e) f0 f1 f3 f4 f5⟩
 self:=fun _ _ _ _ _ st h=>wpAny_pyIter_listiter st h
theorem zeQ {P:Program}{w:World}{K:Frag}{tg:Expr}(a it:Addr):Turn P w K tg (Itt K a) [it] it (fun i h=>h.IsTupleIter it a i) where
 mem:=by simp
 obj:=fun i h st b hb=>by
  have e:b=it:=by simpa using hb
  subst e
  obtain⟨o,e,c,d⟩:=st
  exact⟨o,e,fun v z=>by rw[d] at z;cases z⟩
 keep:=fun i h h' st k=>st.at fun o e=>k it (by simp) o e
 item:=by
  intro X hP hw hK hc i pins s σ H E I hf st hg
  subst hP hw hK
  obtain⟨xs,x,hq,hx⟩:=hg
  obtain⟨its,rv,p,hz⟩:=I.tuple hq
  obtain⟨u,hu,ru⟩:=rv.get hx
  obtain⟨f0,f1,f2,f3,f4,f5⟩:=hf it (by simp)
  refine wpAny_pyNext_tuple_item st (show s.heap.IsTuple a its.toArray from p) (x:=u) (by simpa using hu) fun h' st' sb=>?_
  have I1:Inv X pins σ H { s with heap:=h' }:=I.turned (t':=s.toks) (fun b o hb e=>(sb.2 b hb).trans e) f0 f1 f3 f4 f5
  obtain⟨o,e,c,d⟩:=id st'
  exact⟨u,rfl,zia (s:={ s with heap:=h' }) e c d (by decide) ⟨x,H,I1,ru,⟨rfl,fun ys hy=>by rw[I.zbH hy hq];exact hx⟩,st',fun b hb=>(hf b hb).1⟩⟩
 done:=by
  intro X hP hw hK hc i pins s σ H E I hf st hg
  subst hP hw hK
  obtain⟨xs,hq,hx⟩:=hg
  obtain⟨its,rv,p,hz⟩:=I.tuple hq
  obtain⟨f0,f1,f2,f3,f4,f5⟩:=hf it (by simp)
  have hl:=rv.length
  exact wpAny_pyNext_tuple_end (I.ok.hd hc) st (show s.heap.IsTuple a its.toArray from p) (by simp;omega) fun h' eb=>⟨rfl,I.turned (t':=s.toks) (fun b o hb e=>eb b o hb e) f0 f1 f3 f4 f5⟩
 self:=fun _ _ _ _ _ st h=>wpAny_pyIter_tupleiter st h
theorem zeR {P:Program}{w:World}{K:Frag}{tg:Expr}(it:Addr)(lo:Int)(n:Nat):Turn P w K tg (Itr lo n) [it] it (fun i h=>IsRangeIter h it (lo+(i:Nat)*1) ((n:Int)-(i:Nat)) 1) where
 mem:=by simp
 obj:=fun i h st b hb=>by
  have e:b=it:=by simpa using hb
  subst e
  exact⟨_,st,fun v z=>by
   have z':Data.fields _=Data.cell v:=z
   cases z'⟩
 keep:=fun i h h' st k=>k it (by simp) _ st
 item:=by
  intro X hP hw hK hc i pins s σ H E I hf st hg
  subst hP hw hK
  obtain⟨f0,f1,f2,f3,f4,f5⟩:=hf it (by simp)
  have W:=Walks.range (prog:=X.prog) (w:=X.w) (I.ok.hd hc) it lo 1 n
  refine W.item i s _ _ hg st fun v h' tk hv st' kk=>?_
  obtain⟨t,rfl⟩:=hv
  have I1:Inv X pins σ H { s with heap:=h',toks:=tk }:=I.turned (fun b o hb e=>kk b o (by simpa using hb) e) f0 f1 f3 f4 f5
  refine⟨_,rfl,zia (s:={ s with heap:=h',toks:=tk }) (n := "range_iterator") st' rfl rfl (by decide) ⟨.int (lo+i),H,I1,⟨t,?_⟩,⟨rfl,rfl⟩,st',fun b hb=>(hf b hb).1⟩⟩
  rw[Int.mul_one]
 done:=by
  intro X hP hw hK hc i pins s σ H E I hf st hg
  subst hP hw hK
  obtain⟨f0,f1,f2,f3,f4,f5⟩:=hf it (by simp)
  exact wpAny_pyNext_range_end (I.ok.hd hc) st (by have:n<=i:=hg;omega) fun h' eb=>⟨rfl,I.turned (t':=s.toks) (fun b o hb e=>eb b o hb e) f0 f1 f3 f4 f5⟩
 self:=fun _ _ _ _ _ st h=>wpAny_pyIter_rangeiter st h
section
variable {X:Cx}{tg:Expr}
def zmQ (K:Frag)(tl:TE):TI:=fun σ H R=>tl σ H fun x H1=>∃a,x=.ref a/\(∃xs,zT K H1 a xs)/\R (Itl K a) H1
def zoO (K:Frag)(tl:TE):TI:=fun σ H R=>tl σ H fun x H1=>∃a,x=.ref a/\(∃xs,wK K H1 a xs)/\R (Itt K a) H1
theorem xr {l:Expr}{tl:TE}(hl:PE X l tl):PI X tg l (zmQ X.K tl):=by
 intro pins s σ H R I h
 refine wM (hl pins s σ H _ I h) fun v s1 ⟨x,H1,I1,r1,q1⟩=>?_
 obtain⟨a,e,⟨xs,hq⟩,q⟩:=q1
 subst e
 cases r1
 obtain⟨its,rv,p,hz⟩:=I1.list hq
 refine wpAny_pyIter_list p.isList ?_
 refine⟨s1.heap.objs.size,[s1.heap.objs.size],_,_,H1,rfl,I1.kept (t':=s1.toks) fun b o e=>zui _ e,zgV a _,⟨_,zuw _ rfl,rfl,rfl⟩,fun b hb=>?_,q⟩
 have e:b=s1.heap.objs.size:=by simpa using hb
 subst e
 exact I1.zh9 (zus _) (I1.hok.fresh (zus _))
theorem JN {l:Expr}{tl:TE}(hl:PE X l tl):PI X tg l (zoO X.K tl):=by
 intro pins s σ H R I h
 refine wM (hl pins s σ H _ I h) fun v s1 ⟨x,H1,I1,r1,q1⟩=>?_
 obtain⟨a,e,⟨xs,hq⟩,q⟩:=q1
 subst e
 cases r1
 obtain⟨its,rv,p,hz⟩:=I1.tuple hq
 refine wpAny_pyIter_tuple (show s1.heap.IsTuple a its.toArray from p) ?_
 refine⟨s1.heap.objs.size,[s1.heap.objs.size],_,_,H1,rfl,I1.kept (t':=s1.toks) fun b o e=>zui _ e,zeQ a _,⟨_,zuw _ rfl,rfl,rfl⟩,fun b hb=>?_,q⟩
 have e:b=s1.heap.objs.size:=by simpa using hb
 subst e
 exact I1.zh9 (zus _) (I1.hok.fresh (zus _))
theorem zdy {pins:List (Addr×Obj)}{σ:St}{H:Hp}{s:Shared}{R:It->Hp->Prop}{E:Value->Shared->Prop}{lo hi:Int}{t u v:Tok}{tk:Nat}(I:Inv X pins σ H s)(h1:-(2^62)<=lo)(h2:lo<2^62)(h3:-(2^62)<=hi)(h4:hi<2^62)
  (q:R (Itr lo (hi-lo).toNat) H):wpAny (model X.prog X.w) X.A (pyIter (.ref s.heap.objs.size)) (PIE X pins σ tg R) E { s with heap:=s.heap.push { cls:=.type "range", data:=.fields #[.int lo t,.int hi u,.int 1 v] },toks:=tk }:=by
 refine wpAny_pyIter_range (IsRange.new ..) (small_one h1 h2 h3 h4) ?_
 have I1:Inv X pins σ H { s with heap:=s.heap.push { cls:=.type "range", data:=.fields #[.int lo t,.int hi u,.int 1 v] },toks:=tk }:=I.kept fun b o e=>zui _ e
 refine⟨(s.heap.push { cls:=.type "range", data:=.fields #[.int lo t,.int hi u,.int 1 v] }).objs.size,[(s.heap.push { cls:=.type "range", data:=.fields #[.int lo t,.int hi u,.int 1 v] }).objs.size],_,_,H,rfl,
  I1.kept (t':=tk) fun b o e=>zui _ e,zeR _ lo (hi-lo).toNat,?_,fun b hb=>?_,q⟩
 ·have e1:lo+((0:Nat):Int)*1=lo:=by simp
  have e2:(((hi-lo).toNat:Nat):Int)-((0:Nat):Int)=Builtin.Range.rangeSize lo hi 1:=by rw[rangeSize_one];split<;>omega
  show IsRangeIter _ _ (lo+((0:Nat):Int)*1) ((((hi-lo).toNat:Nat):Int)-((0:Nat):Int)) 1
  rw[e1,e2]
  exact zuw _ rfl
 ·have e:b=(s.heap.push { cls:=.type "range", data:=.fields #[.int lo t,.int hi u,.int 1 v] }).objs.size:=by simpa using hb
  subst e
  exact I1.zh9 (zus _) (I1.hok.fresh (zus _))
def zmR (ta:TA):TI:=fun σ H R=>ta σ H fun vs H1=>∃j:Int,vs=[.int j]/\-(2^62)<=j/\j<2^62/\R (Itr 0 j.toNat) H1
def zmS (ta:TA):TI:=fun σ H R=>ta σ H fun vs H1=>∃i j:Int,vs=[.int i,.int j]/\(-(2^62)<=i/\i<2^62/\-(2^62)<=j/\j<2^62)/\R (Itr i (j-i).toNat) H1
theorem ZM {a:Expr}{ta:TA}{p pos:Pos}(hg:Gl X "range")(hm:X.mg "range"=none)(ha:PA X [a] ta)(hs:starEach [a] X.env=[(false,eval a X.env)]:=by rfl):PI X tg (.Call (.Name "range" p) [a] [] pos) (zmR ta):=by
 intro pins s σ H R I h
 refine Call_ (Vr I hg hm boot_range (PyProof.Rows.callWith_type1 (wM (ha pos pins s σ H _ I h) fun us s1 ⟨vs,H1,I1,r1,q1⟩=>?_) hs rfl))
 obtain⟨j,e,q1,q2,q⟩:=q1
 subst e
 cases r1 with
 | cons r rr =>
  cases rr
  obtain⟨t,rfl⟩:=r
  exact call_range_1 (zdy I1 (by omega) (by omega) q1 q2 (by simpa using q))
theorem zbJ {a b:Expr}{ta:TA}{p pos:Pos}(hg:Gl X "range")(hm:X.mg "range"=none)(ha:PA X [a,b] ta)(hs:starEach [a,b] X.env=[(false,eval a X.env),(false,eval b X.env)]:=by rfl)(hs2:starEach [b] X.env=[(false,eval b X.env)]:=by rfl) :
  PI X tg (.Call (.Name "range" p) [a,b] [] pos) (zmS ta):=by
 intro pins s σ H R I h
 refine Call_ (Vr I hg hm boot_range (PyProof.Rows.callWith_type1 (wM (ha pos pins s σ H _ I h) fun us s1 ⟨vs,H1,I1,r1,q1⟩=>?_) (by rw[hs,hs2]) (by rw[hs2];rfl)))
 obtain⟨i,j,e,⟨q1,q2,q3,q4⟩,q⟩:=q1
 subst e
 cases r1 with
 | cons r rr =>
  cases rr with
  | cons r' rr =>
   cases rr
   obtain⟨t,rfl⟩:=r
   obtain⟨t',rfl⟩:=r'
   exact call_range_2 (zdy I1 q1 q2 q3 q4 q)
def zoP (wi:TI)(g:TG)(tb:TS):TS:=fun D σ H=>wi σ H fun J H1=>∃W:Nat->Nat->St->Hp->Prop,(∃m,W 0 m σ H1)/\∀i m σ H,W i m σ H ->
 (J.stop i H/\D.nx σ H)\/(J.go i H/\∃N:St->Hp->Prop,(∀ σ' H',N σ' H'->∃m',m'<m/\W (i+1) m' σ' H')/\∀x H',J.Jb i H x H'->g x σ H' fun σ2 H2=>tb { D with nx:=N,ct:=N,bk:=D.nx } σ2 H2)
def R8 (fp:List Addr)(h:Heap):List (Addr×Obj):=fp.filterMap fun b=>(h.get? b).map fun o=>(b,o)
theorem Vs {fp:List Addr}{h:Heap}{b:Addr}{o:Obj}(hb:b∈fp)(e:h.get? b=some o):(b,o)∈R8 fp h:=List.mem_filterMap.mpr ⟨b,hb,by rw[e];rfl⟩
theorem zbK {fp:List Addr}{h:Heap}{p:Addr×Obj}(hp:p∈R8 fp h):p.1∈fp/\h.get? p.1=some p.2:=by
 obtain⟨b,hb,e⟩:=List.mem_filterMap.mp hp
 cases q:h.get? b with
 | none=>rw[q] at e;cases e
 | some o =>
  rw[q] at e
  have e':(b,o)=p:=zuG e
  subst e'
  exact⟨hb,q⟩
theorem Inv.pinned {pins:List (Addr×Obj)}{σ:St}{H:Hp}{s:Shared}{fp:List Addr}(I:Inv X pins σ H s)(hf:∀b∈fp,zbi X pins H b)(ho:∀b∈fp,∃o,s.heap.get? b=some o/\∀v,o.data≠.cell v):Inv X (pins++R8 fp s.heap) σ H s :=
 I.Vp fun p hp=>(List.mem_append.mp hp).elim (fun z=>I.pin p (zut _ z)) fun z=>by
  obtain⟨hb,e⟩:=zbK z
  obtain⟨f0,f1,f2,_⟩:=hf p.1 hb
  obtain⟨o,e',d⟩:=ho p.1 hb
  rw[e] at e';cases e'
  exact⟨e,f0,f1,f2,d⟩
theorem Inv.JQ {pins pl:List (Addr×Obj)}{σ:St}{H:Hp}{s:Shared}(I:Inv X (pins++pl) σ H s):Inv X pins σ H s:=I.Vp fun p hp=>I.pin p (zut _ (List.mem_append_left _ hp))
theorem uO {iter:Expr}{body:List Stmt}{wi:TI}{g:TG}{tb:TS}{pos:Pos}(hp:PassesOwn (model X.prog X.w) X.A X.env X.xe)(hc:X.calm=true)(hi:PI X tg iter wi)(hg:PG X tg g)(hb:PSs X body tb)
  (hs:∀x,foldedSetIterable iter X.env x=pure x:=by intro _;rfl):PS X (.For tg iter body [] pos) (zoP wi g tb):=by
 intro pins s σ H D I h
 refine wpAny_For (wM (hi pins s σ H _ I h) fun v s1 h1=>wM h1 fun itv s2 h2=>?_) hs
 obtain⟨it,fp,tn,J,H2,e,I2,T,st2,f2,W,⟨m0,w0⟩,turn⟩:=h2
 subst e
 have stat:∀{H':Hp},(∀b∈fp,H' b=none)->∀b∈fp,zbi X pins H' b:=fun hn b hb=>⟨hn b hb,(f2 b hb).2⟩
 refine codeAny_forLoop_any (fun n s'=>∃i σ' H',Inv X pins σ' H' s'/\tn i s'.heap/\(∀b∈fp,H' b=none)/\W i n σ' H') ?_ m0 ⟨0,σ,H2,I2,st2,fun b hb=>(f2 b hb).1,w0⟩
 rintro n s3 ⟨i,σ3,H3,I3,st3,fr3,w3⟩
 rcases turn i n σ3 H3 w3 with ⟨stop,qn⟩ | ⟨go,N,hN,step⟩
 ·refine wpAny_passesOwn hp (wM (T.done X rfl rfl rfl hc i pins s3 σ3 H3 X.xe I3 (stat fr3) st3 stop) fun r s4 ⟨hr,I4⟩=>?_)
  subst hr
  exact wpAny_execs_nil ⟨σ3,H3,I4,qn⟩
 ·refine wpAny_passesOwn hp (wM (T.item X rfl rfl rfl hc i pins s3 σ3 H3 X.xe I3 (stat fr3) st3 go) fun r s4 ⟨u,hr,h4⟩=>?_)
  subst hr
  refine wpAny_passesOwn hp (wM h4 fun _ s5 ⟨x,H5,I5,r5,y5,st5,fr5⟩=>?_)
  have I5':=I5.pinned (stat fr5) (T.obj _ _ st5)
  refine wpAny_passesOwn hp (wM (hg _ s5 σ3 H5 x u _ I5' r5 (step x H5 y5)) fun _ s6 ⟨σ6,H6,I6,q6⟩=>?_)
  refine wpAny_passesOwn hp (wM (hb _ s6 σ6 H6 _ I6 q6) fun f s7 q7=>?_)
  have again:∀{σ7:St} {H7:Hp},Inv X (pins++R8 fp s5.heap) σ7 H7 s7->N σ7 H7->∃m,m<n/\∃i σ' H',Inv X pins σ' H' s7/\tn i s7.heap/\(∀b∈fp,H' b=none)/\W i m σ' H':=fun {σ7 H7} I7 n7=>by
   obtain⟨m',hm,w7⟩:=hN σ7 H7 n7
   refine⟨m',hm,i+1,σ7,H7,I7.JQ,T.keep _ _ _ st5 fun b hb o e=>(I7.pin (b,o) (zut _ (zut _ (Vs hb e)))).1,fun b hb=>?_,w7⟩
   obtain⟨o,e,d⟩:=T.obj _ _ st5 b hb
   exact(I7.pin (b,o) (zut _ (zut _ (Vs hb e)))).2.1
  cases f with
  | next=>obtain⟨σ7,H7,I7,n7⟩:=q7;exact again I7 n7
  | cont=>obtain⟨σ7,H7,I7,n7⟩:=q7;exact again I7 n7
  | brk=>obtain⟨σ7,H7,I7,q7⟩:=q7;exact⟨σ7,H7,I7.JQ,q7⟩
  | ret v=>obtain⟨x7,σ7,H7,I7,r7,q7⟩:=q7;exact⟨x7,σ7,H7,I7.JQ,r7,q7⟩
end
theorem Yy {K:Frag}{a:Addr}{xs:List V}{g:TG}{tb:TS}{D:Ends}{σ:St}{H:Hp}(Pv:Nat->St->Hp->Prop)(h0:Pv 0 σ H)(hl:∀i σ H,i<=xs.length->Pv i σ H->zT K H a xs)
  (hs:∀i x σ H,xs[i]?=some x->Pv i σ H->g x σ H fun σ2 H2=>tb { D with nx:=Pv (i+1),ct:=Pv (i+1),bk:=D.nx } σ2 H2)(hd:∀ σ H,Pv xs.length σ H->D.nx σ H) :
  ∃W:Nat->Nat->St->Hp->Prop,(∃m,W 0 m σ H)/\∀i m σ H,W i m σ H ->
   ((Itl K a).stop i H/\D.nx σ H)\/((Itl K a).go i H/\∃N:St->Hp->Prop,(∀ σ' H',N σ' H'->∃m',m'<m/\W (i+1) m' σ' H')/\∀x H',(Itl K a).Jb i H x H'->g x σ H' fun σ2 H2=>tb { D with nx:=N,ct:=N,bk:=D.nx } σ2 H2):=by
 refine⟨fun i m σ H=>m=xs.length-i/\i<=xs.length/\Pv i σ H,⟨xs.length,by simp,zuy _,h0⟩,?_⟩
 rintro i m σ H ⟨rfl,hi,p⟩
 have q:=hl i σ H hi p
 by_cases hlt:i<xs.length
 ·refine .inr ⟨⟨xs,xs[i],q,by simp[hlt]⟩,Pv (i+1),fun σ' H' p'=>⟨xs.length-(i+1),by omega,rfl,hlt,p'⟩,fun x H' y=>?_⟩
  obtain⟨e,y⟩:=y
  subst e
  exact hs i x σ _ (y xs q) p
 ·have e:i=xs.length:=by omega
  subst e
  exact .inl ⟨⟨xs,q,zus _⟩,hd σ H p⟩
theorem ZP {lo:Int}{n:Nat}{g:TG}{tb:TS}{D:Ends}{σ:St}{H:Hp}(Pv:Nat->St->Hp->Prop)(h0:Pv 0 σ H)
  (hs:∀i σ H,i<n->Pv i σ H->g (.int (lo+i)) σ H fun σ2 H2=>tb { D with nx:=Pv (i+1),ct:=Pv (i+1),bk:=D.nx } σ2 H2)(hd:∀ σ H,Pv n σ H->D.nx σ H) :
  ∃W:Nat->Nat->St->Hp->Prop,(∃m,W 0 m σ H)/\∀i m σ H,W i m σ H ->
   ((Itr lo n).stop i H/\D.nx σ H)\/((Itr lo n).go i H/\∃N:St->Hp->Prop,(∀ σ' H',N σ' H'->∃m',m'<m/\W (i+1) m' σ' H')/\∀x H',(Itr lo n).Jb i H x H'->g x σ H' fun σ2 H2=>tb { D with nx:=N,ct:=N,bk:=D.nx } σ2 H2):=by
 refine⟨fun i m σ H=>m=n-i/\i<=n/\Pv i σ H,⟨n,by simp,zuy _,h0⟩,?_⟩
 rintro i m σ H ⟨rfl,hi,p⟩
 by_cases hlt:i<n
 ·refine .inr ⟨hlt,Pv (i+1),fun σ' H' p'=>⟨n-(i+1),by omega,rfl,hlt,p'⟩,fun x H' y=>?_⟩
  obtain⟨e,y⟩:=y
  subst e y
  exact hs i σ _ hlt p
 ·have e:i=n:=by omega
  subst e
  exact .inl ⟨zus _,hd σ H p⟩
abbrev R2:=V->V->Hp->VK->Prop
def U0 (X:Cx)(f:Value->Value->Sem Value)(r:R2):Prop :=
 ∀(pins:List (Addr×Obj)) (s:Shared) (σ:St) (H:Hp) (x y:V) (v u:Value) (Q:VK),Inv X pins σ H s->RelV x v->RelV y u->r x y H Q ->
  wpAny (model X.prog X.w) X.A (f v u) (EP X pins σ Q) X.xe s
def UnR (X:Cx)(f:Value->Sem Value)(r:V->Hp->VK->Prop):Prop :=
 ∀(pins:List (Addr×Obj)) (s:Shared) (σ:St) (H:Hp) (x:V) (v:Value) (Q:VK),Inv X pins σ H s->RelV x v->r x H Q ->
  wpAny (model X.prog X.w) X.A (f v) (EP X pins σ Q) X.xe s
def Wc (X:Cx)(f:Value)(r:List V->Hp->VK->Prop):Prop :=
 ∀(pins:List (Addr×Obj)) (s:Shared) (σ:St) (H:Hp) (xs:List V) (us:List Value) (Q:VK),Inv X pins σ H s->Vals xs us->r xs H Q ->
  wpAny (model X.prog X.w) X.A (call f us) (EP X pins σ Q) X.xe s
def zoS (X:Cx)(r:V->Hp->(Bool->Hp->Prop)->Prop):Prop :=
 ∀(pins:List (Addr×Obj)) (s:Shared) (σ:St) (H:Hp) (x:V) (v:Value) (Q:Bool->Hp->Prop),Inv X pins σ H s->RelV x v->r x H Q ->
  wpAny (model X.prog X.w) X.A (truthy v) (TP X pins σ Q) X.xe s
def tOp (r:R2)(ta tb:TE):TE:=fun σ H Q=>ta σ H fun x H1=>tb σ H1 fun y H2=>r x y H2 Q
def tUn (r:V->Hp->VK->Prop)(ta:TE):TE:=fun σ H Q=>ta σ H fun x H1=>r x H1 Q
def rI (C:Int->Int->Prop)(g:Int->Int->V):R2:=fun x y H Q=>∃i j,x=.int i/\y=.int j/\C i j/\Q (g i j) H
def rI0 (g:Int->Int->V):R2:=fun x y H Q=>∃i j,x=.int i/\y=.int j/\Q (g i j) H
def rU (g:Int->V):V->Hp->VK->Prop:=fun x H Q=>∃i,x=.int i/\Q (g i) H
section
variable {X:Cx}{a b c:Expr}{ta tb tc:TE}{pos:Pos}
theorem zlt (ha:PE X a ta)(hb:PE X b tb){pins:List (Addr×Obj)}{s:Shared}{σ:St}{H:Hp}{R:V->V->Hp->Prop}(I:Inv X pins σ H s)
  (h:ta σ H fun x H1=>tb σ H1 fun y H2=>R x y H2){Q:Value->Shared->Prop}{f:Value->Value->Sem Value}
  (hf:∀v u s2 x y H2,Inv X pins σ H2 s2->RelV x v->RelV y u->R x y H2->wpAny (model X.prog X.w) X.A (f v u) Q X.xe s2) :
  wpAny (model X.prog X.w) X.A (eval a X.env) (fun v s₁=>wpAny (model X.prog X.w) X.A (eval b X.env) (fun u s₂=>wpAny (model X.prog X.w) X.A (f v u) Q X.xe s₂) X.xe s₁) X.xe s:=by
 refine wM (ha pins s σ H _ I h) fun v s1 ⟨x,H1,I1,r1,q1⟩=>?_
 refine wM (hb pins s1 σ H1 _ I1 q1) fun u s2 ⟨y,H2,I2,r2,q2⟩=>?_
 exact hf v u s2 x y H2 I2 r1 r2 q2
theorem zM {op:Operator}{r:R2}(ho:U0 X (binaryOp op) r)(ha:PE X a ta)(hb:PE X b tb):PE X (.BinOp a op b pos) (tOp r ta tb):=by
 intro pins s σ H Q I h
 exact wpAny_BinOp (zlt ha hb I h fun v u s2 x y H2 I2 rx ry q=>ho pins s2 σ H2 x y v u Q I2 rx ry q)
theorem zib {op:UnaryOp}{r:V->Hp->VK->Prop}(ho:UnR X (unaryOp op) r)(ha:PE X a ta):PE X (.UnaryOp op a pos) (tUn r ta):=by
 intro pins s σ H Q I h
 exact UnaryOp_ (wM (ha pins s σ H _ I h) fun v s1 ⟨x,H1,I1,r1,q1⟩=>ho pins s1 σ H1 x v Q I1 r1 q1)
theorem opI {f:Value->Value->Sem Value}{C:Int->Int->Prop}{g:Int->Int->Int}
  (rule:∀(i j:Int) (t u:Tok) (s:Shared) (Q:Value->Shared->Prop) (E:Value->Shared->Prop),C i j->Q (.int (g i j) s.toks) { s with toks:=s.toks+1 }->wpAny (model X.prog X.w) X.A (f (.int i t) (.int j u)) Q E s) :
  U0 X f (rI C fun i j=>.int (g i j)):=by
 intro pins s σ H x y v u Q I rx ry h
 obtain⟨i,j,rfl,rfl,hc,q⟩:=h
 obtain⟨t,rfl⟩:=rx
 obtain⟨t',rfl⟩:=ry
 exact rule i j t t' s _ _ hc ⟨.int (g i j),H,I.tok _,⟨_,rfl⟩,q⟩
theorem zgW {f:Value->Value->Sem Value}{g:Int->Int->Int}
  (rule:∀(i j:Int) (t u:Tok) (s:Shared) (Q:Value->Shared->Prop) (E:Value->Shared->Prop),Q (.int (g i j) s.toks) { s with toks:=s.toks+1 }->wpAny (model X.prog X.w) X.A (f (.int i t) (.int j u)) Q E s) :
  U0 X f (rI0 fun i j=>.int (g i j)):=by
 intro pins s σ H x y v u Q I rx ry h
 obtain⟨i,j,rfl,rfl,q⟩:=h
 obtain⟨t,rfl⟩:=rx
 obtain⟨t',rfl⟩:=ry
 exact rule i j t t' s _ _ ⟨.int (g i j),H,I.tok _,⟨_,rfl⟩,q⟩
theorem zjC {f:Value->Value->Sem Value}{g:Int->Int->Bool}
  (rule:∀(i j:Int) (t u:Tok) (s:Shared) (Q:Value->Shared->Prop) (E:Value->Shared->Prop),Q (.bool (g i j)) s->wpAny (model X.prog X.w) X.A (f (.int i t) (.int j u)) Q E s) :
  U0 X f (rI0 fun i j=>.bl (g i j)):=by
 intro pins s σ H x y v u Q I rx ry h
 obtain⟨i,j,rfl,rfl,q⟩:=h
 obtain⟨t,rfl⟩:=rx
 obtain⟨t',rfl⟩:=ry
 exact rule i j t t' s _ _ ⟨.bl (g i j),H,I,rfl,q⟩
def zoT (i j:Int):Prop:=0<j/\j<1073741824
def zoU (i j:Int):Prop:=0<=j/\j<=1000000/\i.natAbs<2^64
def zlu (i j:Int):Prop:=(-(2^64)<i/\i<2^64)\/(-(2^64)<j/\j<2^64)
theorem zlu.ok {i j:Int}(h:zlu i j):IntMulOk i j:=by
 rcases h with ⟨h1,h2⟩ | ⟨h1,h2⟩
 ·exact .of_left (intBits_le_64 h1 h2)
 ·exact .of_right (intBits_le_64 h1 h2)
theorem zeS (k:Nat):(0:Int)<=2^k:=by
 rw[two_pow_cast]
 exact Int.natCast_nonneg _
theorem xW:U0 X (binaryOp .Add) (rI0 fun i j=>.int (i+j)):=zgW fun _ _ _ _ _ _ _ q=>add_int q
theorem NP:U0 X (binaryOp .Sub) (rI0 fun i j=>.int (i-j)):=zgW fun _ _ _ _ _ _ _ q=>sub_int q
theorem NQ:U0 X (binaryOp .Mult) (rI zlu fun i j=>.int (i*j)):=opI fun _ _ _ _ _ _ _ hc q=>mul_int q hc.ok
theorem zf8:U0 X (binaryOp .FloorDiv) (rI zoT fun i j=>.int (i / j)):=opI fun i j _ _ _ _ _ hc q=>by
 have h1:(0:Int)<j:=hc.1
 have h2:j<1073741824:=hc.2
 exact floordiv_int (by omega) (by rw[Int.fdiv_eq_ediv_of_nonneg i (by omega)];exact q) (.inl (PyProof.noPylong_small (by omega)))
theorem Ze:U0 X (binaryOp .Mod) (rI (fun _ j=>0<j) fun i j=>.int (i%j)):=opI fun i j _ _ _ _ _ hc q=>by
 have h1:(0:Int)<j:=hc
 exact mod_int' (by omega) (by rw[Int.fmod_eq_emod_of_nonneg i (by omega)];exact q)
theorem zlv:U0 X (binaryOp .Pow) (rI zoU fun i j=>.int (i^j.toNat)):=opI fun _ _ _ _ _ _ _ hc q=>pow_int_small hc.1 hc.2.1 hc.2.2 q
theorem zlw:U0 X (binaryOp .RShift) (rI (fun _ j=>0<=j) fun i j=>.int (i / 2^j.toNat)):=opI fun i j _ _ _ _ _ hc q =>
 rshift_int hc (by rw[Int.fdiv_eq_ediv_of_nonneg i (zeS _)];exact q)
theorem zlx:U0 X (binaryOp .BitAnd) (rI0 fun i j=>.int (Builtin.bitAnd i j)):=zgW fun _ _ _ _ _ _ _ q=>and_int q
theorem zmV:U0 X (binaryOp .BitOr) (rI0 fun i j=>.int (Builtin.bitOr i j)):=zgW fun _ _ _ _ _ _ _ q=>or_int q
theorem zly:U0 X (binaryOp .BitXor) (rI0 fun i j=>.int (Builtin.bitXor i j)):=zgW fun _ _ _ _ _ _ _ q=>xor_int q
theorem zcz:U0 X (inplaceOp .Add) (rI0 fun i j=>.int (i+j)):=zgW fun _ _ _ _ _ _ _ q=>iadd_int q
theorem unI {f:Value->Sem Value}{g:Int->Int}
  (rule:∀(i:Int) (t:Tok) (s:Shared) (Q:Value->Shared->Prop) (E:Value->Shared->Prop),Q (.int (g i) s.toks) { s with toks:=s.toks+1 }->wpAny (model X.prog X.w) X.A (f (.int i t)) Q E s) :
  UnR X f (rU fun i=>.int (g i)):=by
 intro pins s σ H x v Q I rx h
 obtain⟨i,rfl,q⟩:=h
 obtain⟨t,rfl⟩:=rx
 exact rule i t s _ _ ⟨.int (g i),H,I.tok _,⟨_,rfl⟩,q⟩
theorem zeT:UnR X (unaryOp .USub) (rU fun i=>.int (-i)):=unI fun _ _ _ _ _ q=>neg_int q
end
def zmW:V->V->Bool
 | .non,.non=>true | .non,.int _=>true | .int _,.non=>true | .non,.bl _=>true | .bl _,.non=>true | .non,.str _=>true | .str _,.non=>true
 | .int _,.int _=>true | .bl _,.bl _=>true | .str _,.str _=>true | .byt _,.byt _=>true
 | .int _,.str _=>true | .str _,.int _=>true | .bl _,.str _=>true | .str _,.bl _=>true
 | _,_=>false
def rEq:R2:=fun x y H Q=>zmW x y=true/\Q (.bl (decide (x=y))) H
def rNe:R2:=fun x y H Q=>zmW x y=true/\Q (.bl (!decide (x=y))) H
theorem zf9 {i j:Int}:decide (V.int i=V.int j)=(i==j):=by
 rw[zuR]
 simp
theorem zic {i j:Bool}:decide (V.bl i=V.bl j)=(i==j):=by
 rw[zuR]
 simp
theorem zga {i j:Str}:decide (V.str i=V.str j)=(i==j):=by
 rw[zuR]
 simp
theorem zgb {i j:Array UInt8}:decide (V.byt i=V.byt j)=(i.toList==j.toList):=by
 rw[zuR]
 cases i
 cases j
 simp
section
variable {X:Cx}{a b c:Expr}{ta tb tc:TE}{pos:Pos}
theorem yF {pins:List (Addr×Obj)}{σ:St}{H:Hp}{s:Shared}{Q:VK}{k k':Bool}(I:Inv X pins σ H s)(q:Q (.bl k) H)(e:k=k'):EP X pins σ Q (.bool k') s:=by
 subst e
 exact⟨.bl k,H,I,rfl,q⟩
theorem vf:U0 X (compareOp .Eq) rEq:=by
 intro pins s σ H x y v u Q I rx ry h
 obtain⟨hs,q⟩:=h
 cases x with
 | non =>
  cases rx
  cases y with
  | non=>cases ry;exact PySem.EqNone.eq_none_none (yF I q (by simp))
  | bl j=>cases ry;exact PySem.EqNone.eq_none_bool (yF I q (by simp))
  | int j=>obtain⟨t',rfl⟩:=ry;exact PySem.EqNone.eq_none_int (yF I q (by simp))
  | str j=>obtain⟨t',rfl⟩:=ry;exact PySem.EqNone.eq_none_str (yF I q (by simp))
  | _=>exact absurd (show false=true from hs) zug
 | bl i =>
  cases rx
  cases y with
  | non=>cases ry;exact PySem.EqNone.eq_bool_none (yF I q (by simp))
  | bl j=>cases ry;exact eq_bool (yF I q zic)
  | str j=>obtain⟨t',rfl⟩:=ry;exact PySem.EqMixed.eq_bool_str (yF I q (by simp))
  | _=>exact absurd (show false=true from hs) zug
 | int i =>
  obtain⟨t,rfl⟩:=rx
  cases y with
  | non=>cases ry;exact PySem.EqNone.eq_int_none (yF I q (by simp))
  | int j=>obtain⟨t',rfl⟩:=ry;exact eq_int (yF I q zf9)
  | str j=>obtain⟨t',rfl⟩:=ry;exact PySem.EqMixed.eq_int_str (yF I q (by simp))
  | _=>exact absurd (show false=true from hs) zug
 | str i =>
  obtain⟨t,rfl⟩:=rx
  cases y with
  | non=>cases ry;exact PySem.EqNone.eq_str_none (yF I q (by simp))
  | bl j=>cases ry;exact PySem.EqMixed.eq_str_bool (yF I q (by simp))
  | int j=>obtain⟨t',rfl⟩:=ry;exact PySem.EqMixed.eq_str_int (yF I q (by simp))
  | str j=>obtain⟨t',rfl⟩:=ry;exact eq_str (yF I q zga)
  | _=>exact absurd (show false=true from hs) zug
 | byt i =>
  obtain⟨t,rfl⟩:=rx
  cases y with
  | byt j=>obtain⟨t',rfl⟩:=ry;exact PySem.W.eq_bytes (yF I q zgb)
  | _=>exact absurd (show false=true from hs) zug
 | _=>cases y<;>exact absurd (show false=true from hs) zug
theorem Kf:U0 X (compareOp .NotEq) rNe:=by
 intro pins s σ H x y v u Q I rx ry h
 obtain⟨hs,q⟩:=h
 cases x with
 | non =>
  cases rx
  cases y with
  | non=>cases ry;exact PySem.EqNone.ne_none_none (yF I q (by simp))
  | bl j=>cases ry;exact PySem.EqNone.ne_none_bool (yF I q (by simp))
  | int j=>obtain⟨t',rfl⟩:=ry;exact PySem.EqNone.ne_none_int (yF I q (by simp))
  | str j=>obtain⟨t',rfl⟩:=ry;exact PySem.EqNone.ne_none_str (yF I q (by simp))
  | _=>exact absurd (show false=true from hs) zug
 | bl i =>
  cases rx
  cases y with
  | non=>cases ry;exact PySem.EqNone.ne_bool_none (yF I q (by simp))
  | bl j=>cases ry;exact ne_bool (yF I q (congrArg not zic))
  | str j=>obtain⟨t',rfl⟩:=ry;exact PySem.EqMixed.ne_bool_str (yF I q (by simp))
  | _=>exact absurd (show false=true from hs) zug
 | int i =>
  obtain⟨t,rfl⟩:=rx
  cases y with
  | non=>cases ry;exact PySem.EqNone.ne_int_none (yF I q (by simp))
  | int j=>obtain⟨t',rfl⟩:=ry;exact ne_int (yF I q (congrArg not zf9))
  | str j=>obtain⟨t',rfl⟩:=ry;exact PySem.EqMixed.ne_int_str (yF I q (by simp))
  | _=>exact absurd (show false=true from hs) zug
 | str i =>
  obtain⟨t,rfl⟩:=rx
  cases y with
  | non=>cases ry;exact PySem.EqNone.ne_str_none (yF I q (by simp))
  | bl j=>cases ry;exact PySem.EqMixed.ne_str_bool (yF I q (by simp))
  | int j=>obtain⟨t',rfl⟩:=ry;exact PySem.EqMixed.ne_str_int (yF I q (by simp))
  | str j=>obtain⟨t',rfl⟩:=ry;exact ne_str (yF I q (congrArg not zga))
  | _=>exact absurd (show false=true from hs) zug
 | byt i =>
  obtain⟨t,rfl⟩:=rx
  cases y with
  | byt j=>obtain⟨t',rfl⟩:=ry;exact PySem.W.ne_bytes (yF I q (congrArg not zgb))
  | _=>exact absurd (show false=true from hs) zug
 | _=>cases y<;>exact absurd (show false=true from hs) zug
theorem zbL:U0 X (compareOp .Lt) (rI0 fun i j=>.bl (decide (i<j))):=zjC fun _ _ _ _ _ _ _ q=>lt_int q
theorem zmX:U0 X (compareOp .LtE) (rI0 fun i j=>.bl (decide (i<=j))):=zjC fun _ _ _ _ _ _ _ q=>le_int q
theorem zbM:U0 X (compareOp .Gt) (rI0 fun i j=>.bl (decide (j<i))):=zjC fun _ _ _ _ _ _ _ q=>gt_int q
theorem zid:U0 X (compareOp .GtE) (rI0 fun i j=>.bl (decide (j<=i))):=zjC fun _ _ _ _ _ _ _ q=>ge_int q
theorem zie:U0 X (compareOp .Is) (fun x y H Q=>y=.non/\Q (.bl (decide (x=.non))) H):=by
 intro pins s σ H x y v u Q I rx ry h
 obtain⟨rfl,q⟩:=h
 cases ry
 refine is_none_gen (yF I q ?_)
 cases x<;>first
  | (cases rx;rfl)
  | (obtain⟨t,rfl⟩:=rx;rfl)
theorem zcA:U0 X (compareOp .IsNot) (fun x y H Q=>y=.non/\Q (.bl (!decide (x=.non))) H):=by
 intro pins s σ H x y v u Q I rx ry h
 obtain⟨rfl,q⟩:=h
 cases ry
 refine isnot_none_gen (yF I q ?_)
 cases x<;>first
  | (cases rx;rfl)
  | (obtain⟨t,rfl⟩:=rx;rfl)
theorem zP (b:Expr){op:CmpOp}(h:op≠.In:=by decide)(h2:op≠.NotIn:=by decide):behindInMarks op b=false:=by
 have e1:(op==CmpOp.In)=false:=by cases op<;>first | rfl | exact absurd rfl h
 have e2:(op==CmpOp.NotIn)=false:=by cases op<;>first | rfl | exact absurd rfl h2
 cases b<;>simp[behindInMarks,e1,e2]
theorem uy {op:CmpOp}{r:R2}(ho:U0 X (compareOp op) r)(ha:PE X a ta)(hb:PE X b tb)(hm:behindInMarks op b=false):PE X (.Compare a [op] [b] pos) (tOp r ta tb):=by
 intro pins s σ H Q I h
 exact wpAny_Compare1 (zlt ha hb I h fun v u s2 x y H2 I2 rx ry q=>ho pins s2 σ H2 x y v u Q I2 rx ry q) hm
def zmY (t:TE):TT:=fun σ H Q=>t σ H fun x H'=>∃k,x=.bl k/\Q k H'
theorem zL {op:CmpOp}{r:R2}(ho:U0 X (compareOp op) r)(ha:PE X a ta)(hb:PE X b tb)(hm:behindInMarks op b=false):PT X (.Compare a [op] [b] pos) (zmY (tOp r ta tb)):=by
 intro pins s σ H Q I h
 refine wpAny_isTrue_Compare1 (wM (ha pins s σ H _ I h) fun v s1 ⟨x,H1,I1,r1,q1⟩=>wM (hb pins s1 σ H1 _ I1 q1) fun u s2 ⟨y,H2,I2,r2,q2⟩ =>
  wM (ho pins s2 σ H2 x y v u _ I2 r1 r2 q2) fun c s3 ⟨z,H3,I3,r3,k,e,q3⟩=>?_) hm
 subst e
 cases r3
 exact wpAny_truthy_bool ⟨H3,I3,q3⟩
def zmZ (K:Frag)(x:V)(H:Hp)(k:Bool):Prop :=
 match x with
 | .non=>k=false
 | .bl b=>k=b
 | .int i=>k=(i != 0)
 | .str y=>y.length<=sizeLine/\k=((y.length:Int) != 0)
 | .byt y=>y.size<=sizeLine/\k=((y.size:Int) != 0)
 | .ref p=>(∃xs,zT K H p xs/\k=!xs.isEmpty)\/(∃xs,wK K H p xs/\k=!xs.isEmpty)\/∃kvs,H p=some (.dK kvs)/\k=!kvs.isEmpty
 | _=>False
theorem zeU {κ:Type}{kvs:List (κ×V)}{vs:List (κ×Value)}(r:KV kvs vs):(!vs.isEmpty)=!kvs.isEmpty:=by
 cases r<;>rfl
theorem JR {xs:List V}{its:List Value}(r:Vals xs its):(!its.toArray.isEmpty)=!xs.isEmpty:=by
 cases r<;>simp
theorem U7:(sizeLine:Nat)<2^63:=by rw[sizeLine_eq];decide
theorem zlz:zoS X (fun x H Q=>∃k,zmZ X.K x H k/\Q k H):=by
 intro pins s σ H x v Q I rx h
 obtain⟨k,e,q⟩:=h
 have hl:=U7
 have hs:sizeLine=16777216:=sizeLine_eq
 cases x with
 | non =>
  cases rx
  have e':k=false:=e
  subst e'
  exact truthy_none ⟨H,I,q⟩
 | bl b =>
  cases rx
  have e':k=b:=e
  subst e'
  exact wpAny_truthy_bool ⟨H,I,q⟩
 | int i =>
  obtain⟨t,rfl⟩:=rx
  have e':k=(i != 0):=e
  subst e'
  exact PySem.P.truthy_int ⟨H,I,q⟩
 | str y =>
  obtain⟨t,rfl⟩:=rx
  obtain⟨hy,e'⟩:y.length<=sizeLine/\k=((y.length:Int) != 0):=e
  subst e'
  exact PySem.P.truthy_str (by omega) ⟨H,I.tok _,q⟩
 | byt y =>
  obtain⟨t,rfl⟩:=rx
  obtain⟨hy,e'⟩:y.size<=sizeLine/\k=((y.size:Int) != 0):=e
  subst e'
  exact PySem.W.truthy_bytes (by omega) ⟨H,I.tok _,q⟩
 | ref p =>
  cases rx
  have e':(∃xs,zT X.K H p xs/\k=!xs.isEmpty)\/(∃xs,wK X.K H p xs/\k=!xs.isEmpty)\/∃kvs,H p=some (.dK kvs)/\k=!kvs.isEmpty:=e
  rcases e' with ⟨xs,hx,e'⟩ | ⟨xs,hx,e'⟩ | ⟨kvs,hx,e'⟩
  ·subst e'
   obtain⟨its,r,pl,hz⟩:=I.list hx
   have hlen:=r.length
   exact wpAny_truthy_list pl.isList (by simp only[zum];omega) ⟨H,I.tok _,by rw[JR r];exact q⟩
  ·subst e'
   obtain⟨its,r,pl,hz⟩:=I.tuple hx
   have hlen:=r.length
   exact truthy_tuple pl (by simp only[zum];omega) ⟨H,I.tok _,by rw[JR r];exact q⟩
  ·subst e'
   obtain⟨hz,hS,vs,r,m⟩:kvs.length<=sizeLine/\(p==sysModules)=false/\∃vs,KV kvs vs/\s.heap.DictOf (yQ X.prog X.w) p vs:=I.hok p _ hx
   have hlen:kvs.length=vs.length:=Paired.length r
   exact wpAny_truthy_dict hS m (by omega) ⟨H,I.tok _,by rw[zeU r];exact q⟩
 | _=>exact(show False from e).elim
theorem Yz (ha:PE X a ta)(he:∀whole,isTrue a X.env whole=(do let v <-whole;standAt a.pos;holding [v] (truthy v))) :
  PT X a (fun σ H Q=>ta σ H fun x H'=>∃k,zmZ X.K x H' k/\Q k H'):=by
 intro pins s σ H Q I h
 exact isTrue_plain (wM (ha pins s σ H _ I h) fun v s1 ⟨x,H1,I1,r1,q1⟩=>zlz pins s1 σ H1 x v Q I1 r1 q1) (he _)
theorem vals1 {x:V}{us:List Value}(r:Vals [x] us):∃u,us=[u]/\RelV x u:=by
 cases r with
 | cons r1 r2=>cases r2;exact⟨_,rfl,r1⟩
theorem vals2 {x y:V}{us:List Value}(r:Vals [x,y] us):∃u w',us=[u,w']/\RelV x u/\RelV y w':=by
 cases r with
 | cons r1 r2 =>
  cases r2 with
  | cons r3 r4=>cases r4;exact⟨_,_,rfl,r1,r3⟩
theorem zif:Wc X (.builtin "abs") (fun xs H Q=>∃i,xs=[.int i]/\Q (.int (if i<0 then -i else i)) H):=by
 intro pins s σ H xs us Q I r h
 obtain⟨i,rfl,q⟩:=h
 obtain⟨u,rfl,t,rfl⟩:=vals1 r
 exact call_abs_int fun u tk=>⟨.int (if i<0 then -i else i),H,I.tok _,⟨_,rfl⟩,q⟩
theorem zgX:Wc X (.type "int") (fun xs H Q=>(∃i,xs=[.int i]/\Q (.int i) H)\/∃k,xs=[.bl k]/\Q (.int (if k then 1 else 0)) H):=by
 intro pins s σ H xs us Q I r h
 rcases h with ⟨i,rfl,q⟩ | ⟨k,rfl,q⟩
 ·obtain⟨u,rfl,t,rfl⟩:=vals1 r
  exact call_int_int ⟨.int i,H,I,⟨_,rfl⟩,q⟩
 ·obtain⟨u,rfl,r1⟩:=vals1 r
  cases r1
  exact call_int_bool ⟨.int (if k then 1 else 0),H,I.tok _,⟨_,rfl⟩,q⟩
end
structure zeV (h:Heap)(x dx C:Addr)(mA:Str->Option Value):Prop where
 obj:h.get? x=some (PySem.W.instObj C dx)
 ns:h.Ns1 dx mA
 ne:dx≠x
theorem zgY {h:Heap}{dx:Addr}{mA:Str->Option Value}(n:h.Ns1 dx mA):∃od,h.get? dx=some od/\∀name,PySem.W.lookIn name od=some (mA name):=by
 obtain⟨o,es,ep,ho,hd,hk,_,hm⟩:=n
 refine⟨o,ho,fun name=>?_⟩
 have e:=hm name
 unfold nsFind findBy at e
 rw[<-Array.find?_toList] at e
 unfold PySem.W.lookIn
 rw[hd]
 dsimp only
 split
 ·rename_i y q
  rw[q] at e
  exact congrArg some e
 ·rename_i q
  rw[q] at e
  have a:es.toList.any (·.refKey)=false:=by
   rw[List.any_eq_false]
   intro y hy
   obtain⟨z,t,hkey⟩:=hk y (Array.mem_toList_iff.mp hy)
   simp[DictEntry.refKey,hkey]
  have a':¬es.toList.any (·.refKey)=true:=by rw[a];exact zug
  rw[if_neg a']
  exact congrArg some e
theorem zeV.look {h:Heap}{x dx C:Addr}{mA:Str->Option Value}(I:zeV h x dx C mA):∃od,PySem.W.InstAt h x (PySem.W.instObj C dx) C (some od)/\∀name,PySem.W.lookIn name od=some (mA name) :=
 let ⟨od,ho,hl⟩:=zgY I.ns
 ⟨od,⟨I.obj,rfl,rfl,ho⟩,hl⟩
section
variable {prog:Program}{w:World}{A:Around}{E:Value->Shared->Prop}{s:Shared}{K:Frag}{x dx C f:Addr}{mA:Str->Option Value}{name:Str}{v:Value}
theorem get_map {expr:Bool}{Q:Value->Shared->Prop}(X:K.In s.heap)(I:zeV s.heap x dx C mA)(hg:PySem.W.plainGet K C name=true)(hh:PySem.W.hasDictIn K C=true)
  (ha:findIn K (.ref C) name=some none)(hv:mA name=some v)(hv':PySem.W.handedIn v=true)(h:Q v { s with toks:=s.toks+1 }) :
  wpAny (model prog w) A (getAttr (.ref x) name expr) Q E s:=by
 obtain⟨od,J,hl⟩:=I.look
 exact PySem.W.get_value X J (PySem.W.plainGet_of hg).1 (PySem.W.findObj_own hh ha rfl (by rw[hl,hv])) hv' h
theorem zig {pl:Sem Bool}{Q:Value×List Value->Shared->Prop}(X:K.In s.heap)(I:zeV s.heap x dx C mA)(hg:PySem.W.plainGet K C name=true)
  (hf:findIn K (.ref C) name=some (some (.ref f)))(ht:PySem.W.isFn K (.ref f)=true)(hv:mA name=none)(h:Q (.ref f,[.ref x]) s) :
  wpAny (model prog w) A (getMethod (.ref x) name pl) Q E s:=by
 obtain⟨od,J,hl⟩:=I.look
 exact PySem.W.method_fn X J (PySem.W.plainGet_of hg).1 (PySem.W.plainGet_of hg).2 hf (beq_iff_eq.mp ht) (by show(PySem.W.lookIn name od).map (·.isSome)=some false;rw[hl,hv];rfl) h
theorem zjD {ns:List Str}{Q:Unit->Shared->Prop}(X:K.In s.heap)(I:zeV s.heap x dx C mA)
  (hs:findIn K (.ref C) "__setattr__"=some (some (.builtin "object.__setattr__")))(hp:PySem.W.plainOver K C=true)(ht:PySem.W.takerIn K C name=some none)(hh:PySem.W.hasDictIn K C=true)
  (hw:PySem.Within mA ns)(hsz:ns.length<=sizeLine)
  (h:∀h',zeV h' x dx C (fun y=>if y=name then some v else mA y)->Heap.SameBut dx s.heap h'->Q () { s with heap:=h',toks:=s.toks+2 }) :
  wpAny (model prog w) A (setAttr (.ref x) name v) Q E s:=by
 obtain⟨od,J,hl⟩:=I.look
 refine PySem.W.set_plain X J hs (PySem.W.osa_open (s:={ s with toks:=s.toks+1 }) (r:=none) X J hp ht fun b=>?_)
 obtain⟨cd,hc,hd'⟩:=PySem.W.any_some hh
 have hx:s.heap.get? x=some ⟨.ref C,some dx,.plain,#[]⟩:=I.obj
 refine wpAny_bind (wpAny_pure (wpAny_bind (wpAny_bind (wpAny_loadPart hx (wpAny_bind (PySem.W.Looks.here (s:={ s with toks:=s.toks+1 }) (PySem.W.looks_clsIn X hc) ?_))))))
 rw[hd']
 refine wpAny_pure (a:=some dx) (wpAny_bind (wpAny_pure (wpAny_bind ?_)))
 refine wpAny_nsSet1 (s:={ s with toks:=s.toks+1 }) I.ns fun h' hn2 hs2=>?_
 obtain⟨oD,esD,epD,hoD,hdD,hcD⟩:=hn2.count (PySem.Within.cons name v hw)
 refine wpAny_bind (wpAny_lookBehind hoD (by rw[hdD];exact pastItsLine_dict (zux hcD (by rw[zuo];omega))) ?_)
 exact wpAny_pure (h _ ⟨(hs2.2 _ (Ne.symm I.ne)).trans I.obj,hn2,I.ne⟩ hs2)
theorem zih {R:Result->Shared->Prop}{vs:List Value}{kw:List (Str×Value)}(X:K.In s.heap)(hm:PySem.W.makesIn K C=true)
  (hi:findIn K (.ref C) "__init__"=some (some (.ref f)))(hf:PySem.W.typeIn K (.ref f)=some (.type "function"))
  (h:codeAny (model prog w) (A.under (.builtin "type.__call__" ⟨.ref C::vs,kw⟩)) (.call (.ref f) ⟨.ref (s.heap.objs.size+1)::vs,kw⟩) (PySem.W.InitBack (s.heap.objs.size+1) R)
   {s with heap:=(s.heap.push PySem.W.emptyDict).push (PySem.W.instObj C s.heap.objs.size) }) :
  codeAny (model prog w) A (.call (.ref C) ⟨vs,kw⟩) R s:=by
 obtain⟨hh,g,d,t,os⟩:=s
 exact PySem.W.make_core (PySem.W.makes_of X hm) (PySem.W.looks_findIn X hi) (fun self=>PySem.W.bind_fn X self hf) (.inl rfl) h
end
def ZQ (f:Str)(v:V):List (Str×V)->List (Str×V)
 | []=>[(f,v)]
 | (g,x)::r=>if g=f then (g,v)::r else (g,x)::ZQ f v r
theorem Kg (f g:Str)(v:V):∀fs:List (Str×V),(ZQ f v fs).lookup g=if g=f then some v else fs.lookup g
 | []=>by
  show List.lookup g [(f,v)]=_
  by_cases h:g=f
  ·have hb:(g==f)=true:=beq_iff_eq.mpr h
   simp only[List.lookup,hb,if_pos h]
  ·have hb:(g==f)=false:=beq_eq_false_iff_ne.mpr h
   simp only[List.lookup,hb,if_neg h]
 | (k,x)::r=>by
  have ih:=Kg f g v r
  rw[show ZQ f v ((k,x)::r)=(if k=f then (k,v)::r else (k,x)::ZQ f v r) from rfl]
  by_cases hk:k=f
  ·rw[if_pos hk]
   by_cases h:g=k
   ·have hb:(g==k)=true:=beq_iff_eq.mpr h
    simp only[List.lookup,hb,if_pos (h.trans hk)]
   ·have hb:(g==k)=false:=beq_eq_false_iff_ne.mpr h
    simp only[List.lookup,hb,if_neg (fun e:g=f=>h (e.trans hk.symm))]
  ·rw[if_neg hk]
   by_cases h:g=k
   ·have hb:(g==k)=true:=beq_iff_eq.mpr h
    simp only[List.lookup,hb,if_neg (fun e:g=f=>hk (h.symm.trans e))]
   ·have hb:(g==k)=false:=beq_eq_false_iff_ne.mpr h
    simp only[List.lookup,hb]
    exact ih
theorem NT (f:Str)(v:V):∀fs:List (Str×V),f∈(ZQ f v fs).map (·.1)/\∀g,g∈fs.map (·.1)->g∈(ZQ f v fs).map (·.1)
 | []=>⟨by simp[ZQ],fun g h=>by simp at h⟩
 | (k,x)::r=>by
  obtain⟨i1,i2⟩:=NT f v r
  rw[show ZQ f v ((k,x)::r)=(if k=f then (k,v)::r else (k,x)::ZQ f v r) from rfl]
  by_cases hk:k=f
  ·rw[if_pos hk]
   subst hk
   exact⟨by simp,fun g h=>by simpa using h⟩
  ·rw[if_neg hk]
   refine⟨?_,fun g h=>?_⟩
   ·rw[zuA]
    exact zun _ i1
   ·rw[zuA] at h ⊢
    rcases List.mem_cons.mp h with e | e
    ·exact List.mem_cons.mpr (.inl e)
    ·exact zun _ (i2 g e)
theorem Kh (f:Str)(v:V):∀fs:List (Str×V),(ZQ f v fs).length<=fs.length+1
 | []=>by simp[ZQ]
 | (k,x)::r=>by
  have ih:=Kh f v r
  rw[show ZQ f v ((k,x)::r)=(if k=f then (k,v)::r else (k,x)::ZQ f v r) from rfl]
  by_cases hk:k=f
  ·rw[if_pos hk,zuo,zuo];omega
  ·rw[if_neg hk,zuo,zuo];omega
theorem Rv.some_of {v:V}{o:Option Value}(r:Rv (some v) o):∃u,o=some u/\RelV v u:=by
 cases o with
 | none=>exact(show False from r).elim
 | some u=>exact⟨u,rfl,r⟩
theorem Rv.none_of {o:Option Value}(r:Rv none o):o=none:=by
 cases o with
 | none=>rfl
 | some u=>exact(show False from r).elim
theorem zgZ {v:V}{u:Value}(r:RelV v u):PySem.W.handedIn u=true:=by
 cases v with
 | non=>cases (show u=Value.none from r);rfl
 | bl b=>cases (show u=Value.bool b from r);rfl
 | int i=>obtain⟨t,e⟩:=(show ∃t,u=Value.int i t from r);cases e;rfl
 | str x=>obtain⟨t,e⟩:=(show ∃t,u=Value.str x t from r);cases e;rfl
 | byt b=>obtain⟨t,e⟩:=(show ∃t,u=Value.bytes b t from r);cases e;rfl
 | flt b=>obtain⟨t,e⟩:=(show ∃t,u=Value.float b t from r);cases e;rfl
 | ref a=>cases (show u=Value.ref a from r);rfl
 | ty n=>cases (show u=Value.type n from r);rfl
section
variable {P:Program}{w:World}{H H':Hp}{h h':Heap}{a C dx:Addr}{fs fs':List (Str×V)}
theorem Jl (hok:Rw P w H h)(e:H a=some (.ins C dx fs)):∃mA,zeV h a dx C mA/\(∀f,Rv (fs.lookup f) (mA f))/\PySem.Within mA (fs.map (·.1))/\fs.length<=1000/\H dx=some (.own a):=by
 obtain⟨d,z,ne,ob,mA,n,r,q⟩:=(show wL P w H h a (.ins C dx fs) from hok a _ e)
 exact⟨mA,⟨ob,n,ne⟩,r,q,z,d⟩
end
structure Cls (K:Frag)(C:Addr):Prop where
 pg:PySem.W.plainGet K C Str.empty=true
 hd:PySem.W.hasDictIn K C=true
 po:PySem.W.plainOver K C=true
 sa:findIn K (.ref C) "__setattr__"=some (some (.builtin "object.__setattr__"))
theorem Cls.get {K:Frag}{C:Addr}(c:Cls K C)(f:Str):PySem.W.plainGet K C f=true:=c.pg
def Wz (K:Frag)(C:Addr)(f:Str):Prop:=findIn K (.ref C) f=some none
theorem Wz.taker {K:Frag}{C:Addr}{f:Str}(n:Wz K C f):PySem.W.takerIn K C f=some none:=by
 unfold PySem.W.takerIn
 rw[show findIn K (.ref C) f=some none from n]
 rfl
structure Meth (K:Frag)(C:Addr)(m:Str)(f:Addr):Prop where
 at_:findIn K (.ref C) m=some (some (.ref f))
 fn:PySem.W.isFn K (.ref f)=true
 kp:PySem.W.keepIn K (.ref f)=true
section
variable {X:Cx}{pins:List (Addr×Obj)}{σ:St}{H:Hp}{s:Shared}{a C dx:Addr}{fs:List (Str×V)}{f:Str}{v:V}{A:Around}{E:Value->Shared->Prop}
theorem zeW {b:Bool}{Q:Value->Shared->Prop}(I:Inv X pins σ H s)(e:H a=some (.ins C dx fs))(c:Cls X.K C)(n:Wz X.K C f)(l:fs.lookup f=some v)
  (h:∀u s',Inv X pins σ H s'->RelV v u->Q u s'):wpAny (model X.prog X.w) A (getAttr (.ref a) f b) Q E s:=by
 obtain⟨mA,O,r,_,_,_⟩:=Jl I.hok e
 obtain⟨u,hu,ru⟩:=Rv.some_of (v:=v) (o:=mA f) (by rw[<-l];exact r f)
 exact get_map I.NK O (c.get f) c.hd n hu (zgZ ru) (h u _ (I.tok _) ru)
theorem R9 {m:Str}{g:Addr}{pl:Sem Bool}{Q:Value×List Value->Shared->Prop}(I:Inv X pins σ H s)(e:H a=some (.ins C dx fs))(c:Cls X.K C)(k:Meth X.K C m g)(l:fs.lookup m=none)
  (h:Q (.ref g,[.ref a]) s):wpAny (model X.prog X.w) A (getMethod (.ref a) m pl) Q E s:=by
 obtain⟨mA,O,r,_,_,_⟩:=Jl I.hok e
 have hn:mA m=none:=Rv.none_of (by rw[<-l];exact r m)
 exact zig I.NK O (c.get m) k.at_ k.fn hn h
theorem zeX {y:V}{u:Value}{Q:Unit->Shared->Prop}(I:Inv X pins σ H s)(e:H a=some (.ins C dx fs))(c:Cls X.K C)(n:Wz X.K C f)(hl:fs.length<1000)(ry:RelV y u)
  (h:∀s',Inv X pins σ (upd H a (.ins C dx (ZQ f y fs))) s'->Q () s'):wpAny (model X.prog X.w) A (setAttr (.ref a) f u) Q E s:=by
 obtain⟨mA,O,r,wi,_,ho⟩:=Jl I.hok e
 have hz:(fs.map (·.1)).length<=sizeLine:=by rw[zuc,sizeLine_eq];omega
 refine zjD I.NK O c.sa c.po n.taker c.hd wi hz fun h' O' sb=>h _ ?_
 have hd:∃o,h'.get? dx=some o:=let ⟨o,_,_,e',_⟩:=O'.ns;⟨o,e'⟩
 refine I.write (x:=a) (e:=dx) (by rw[e];exact True.intro) (.inr ho) (fun b q hb z=>(sb.2 b hb).trans z) hd ?_
 refine⟨by rw[zy O.ne];exact ho,?_,O.ne,O'.obj,_,O'.ns,fun g=>?_,fun g hg=>?_⟩
 ·have:=Kh f y fs;omega
 ·show Rv ((ZQ f y fs).lookup g) (if g=f then some u else mA g)
  rw[Kg]
  by_cases q:g=f
  ·rw[if_pos q,if_pos q];exact ry
  ·rw[if_neg q,if_neg q];exact r g
 ·by_cases q:g=f
  ·rw[q];exact(NT f y fs).1
  ·refine(NT f y fs).2 g (wi g fun z=>hg ?_)
   show(if g=f then some u else mA g)=none
   rw[if_neg q];exact z
theorem Inv.made (I:Inv X pins σ H s):Inv X pins σ (upd (upd H s.heap.objs.size (.own (s.heap.objs.size+1))) (s.heap.objs.size+1) (.ins C s.heap.objs.size []))
  {s with heap:=(s.heap.push PySem.W.emptyDict).push (PySem.W.instObj C s.heap.objs.size) }:=by
 have e1:(s.heap.push PySem.W.emptyDict).get? s.heap.objs.size=some PySem.W.emptyDict:=zuw s.heap rfl
 have e2:((s.heap.push PySem.W.emptyDict).push (PySem.W.instObj C s.heap.objs.size)).get? (s.heap.objs.size+1)=some (PySem.W.instObj C s.heap.objs.size):=by
  have:=zuw (s.heap.push PySem.W.emptyDict) (o:=PySem.W.instObj C s.heap.objs.size) rfl
  rwa [Heap.size_push] at this
 have e3:(s.heap.push PySem.W.emptyDict).Ns s.heap.objs.size (fun _=>none):=⟨PySem.W.emptyDict,#[],_,e1,rfl,(fun e he=>absurd he (by simp)),fun _=>rfl⟩
 have I1:=I.laid (a:=s.heap.objs.size) (o:=.own (s.heap.objs.size+1)) (h':=s.heap.push PySem.W.emptyDict) (t':=s.toks) (fun b u q=>zui _ q) (zus _) ⟨_,e1⟩
 refine I1.laid (a:=s.heap.objs.size+1) (o:=.ins C s.heap.objs.size []) (t':=s.toks) (fun b u q=>zui _ q) (Nat.le_of_eq (Heap.size_push _ _)) ?_
 have ne:s.heap.objs.size≠s.heap.objs.size+1:=zur (Nat.lt_succ_self _)
 refine⟨by rw[zy ne,zf],zuy _,ne,e2,fun _=>none,(Heap.Ns1.of_empty e3).at fun o q=>zui _ q,fun _=>True.intro,fun y hy=>absurd rfl hy⟩
theorem zjE {prog:Program}{w:World}{env:Env}{e:Expr}{f:Str}{pos:Pos}{s:Shared}{Q:Value->Shared->Prop}(hb:attributeBase e f env (eval e env)=eval e env)
  (h:wpAny (model prog w) A (eval e env) (fun o s₁=>wpAny (model prog w) A (getAttr o f true) Q E s₁) E s):wpAny (model prog w) A (eval (.Attribute e f pos) env) Q E s :=
 Attribute_any_ h (by rw[arm_eval_Attribute,hb])
end
def zoV (K:Frag)(ta:TE)(f:Str):TE:=fun σ H Q=>ta σ H fun x H1=>∃a C dx fs v,x=.ref a/\H1 a=some (.ins C dx fs)/\Cls K C/\Wz K C f/\fs.lookup f=some v/\Q v H1
def zoW (K:Frag)(ta tv:TE)(f:Str):TS:=fun D σ H=>tv σ H fun y H1=>ta σ H1 fun x H2=>∃a C dx fs,x=.ref a/\H2 a=some (.ins C dx fs)/\Cls K C/\Wz K C f/\fs.length<1000 /\
 D.nx σ (upd H2 a (.ins C dx (ZQ f y fs)))
section
variable {X:Cx}{o e value:Expr}{f:Str}{pos pos' tpos:Pos}{ta tv:TE}
theorem tK (he:PE X e ta)(hb:attributeBase e f X.env (eval e X.env)=eval e X.env):PE X (.Attribute e f pos) (zoV X.K ta f):=by
 intro pins s σ H Q I h
 refine zjE hb (wM (he pins s σ H _ I h) fun u s1 ⟨x,H1,I1,rx,a,C,dx,fs,v,ex,ea,c,n,l,q⟩=>?_)
 subst ex
 obtain rfl:u=Value.ref a:=rx
 exact zeW I1 ea c n l fun u' s2 I2 ru=>⟨v,H1,I2,ru,q⟩
theorem zcB (ha:PE X o ta)(hv:PE X value tv)(hs:swapsWith value (some (.Attribute o f pos')) pos.line X.env=pure false):PS X (.Assign [.Attribute o f pos'] value pos) (zoW X.K ta tv f):=by
 intro pins s σ H D I h
 refine plainObj_wpAny_Assign_Attribute (wM (hv pins s σ H _ I h) fun u s1 ⟨y,H1,I1,ry,q⟩=>wM (ha pins s1 σ H1 _ I1 q) fun ov s2 ⟨x,H2,I2,rx,a,C,dx,fs,ex,ea,c,n,l,q2⟩=>?_) hs
 subst ex
 obtain rfl:ov=Value.ref a:=rx
 exact zeX I2 ea c n l ry fun s3 I3=>⟨σ,_,I3,q2⟩
theorem zkT {pl:Sem Bool}{m:Str}{apos:Pos}{args:List Expr}{pins:List (Addr×Obj)}{s:Shared}{σ:St}{H:Hp}{Q:Value->Shared->Prop}{te:TE}(he:PE X e te)(I:Inv X pins σ H s)
  (h:te σ H fun x H1=>∃a C dx fs g,x=.ref a/\H1 a=some (.ins C dx fs)/\Cls X.K C/\Meth X.K C m g/\fs.lookup m=none /\
   ∀s1,Inv X pins σ H1 s1->wpAny (model X.prog X.w) X.A (callWith pos (.ref g) [.ref a] (backTo pos (starEach args X.env)) (backToKw pos (keywordEach [] X.env))) Q X.xe s1)
  (ht:eval (.Call (.Attribute e m apos) args [] pos) X.env=(do
   let ov <-eval e X.env
   standAt apos.atName
   let (f,first) <-holding [ov] (getMethod ov m pl)
   callWith pos f first (backTo pos (starEach args X.env)) (backToKw pos (keywordEach [] X.env)))) :
  wpAny (model X.prog X.w) X.A (eval (.Call (.Attribute e m apos) args [] pos) X.env) Q X.xe s:=by
 refine PySem.W.methodCall_KW (pl:=pl) (wM (he pins s σ H _ I h) fun u s1 ⟨x,H1,I1,rx,a,C,dx,fs,g,ex,ea,c,k,l,q⟩=>?_) ht
 subst ex
 obtain rfl:u=Value.ref a:=rx
 exact R9 I1 ea c k l (q s1 I1)
end
section
variable {X:Cx}{pins:List (Addr×Obj)}{σ:St}{H:Hp}{s:Shared}{A:Around}{E:Value->Shared->Prop}{Q:Value->Shared->Prop}{c:Value}{b:Bool}
inductive QT (K:Frag)(H:Hp):V->Value->Prop where
 | non:QT K H .non (.type "NoneType")
 | bl (x:Bool):QT K H (.bl x) (.type "bool")
 | int (i:Int):QT K H (.int i) (.type "int")
 | str (x:Str):QT K H (.str x) (.type "str")
 | flt (x:UInt64):QT K H (.flt x) (.type "float")
 | lst {a:Addr} {xs:List V} (e:H a=some (.lst xs)):QT K H (.ref a) (.type "list")
 | frz {a:Addr} {o:Obj} {xs:List V} (e:H a=some (.frz o (.lst xs))):QT K H (.ref a) (.type "list")
 | tup {a:Addr} {xs:List V} (e:H a=some (.tup xs)):QT K H (.ref a) (.type "tuple")
 | dK {a:Addr} {kvs:List (Key×V)} (e:H a=some (.dK kvs)):QT K H (.ref a) (.type "dict")
 | dT {a:Addr} {kvs:List (List Key×V)} (e:H a=some (.dT kvs)):QT K H (.ref a) (.type "dict")
 | ins {a C dx:Addr} {fs:List (Str×V)} (e:H a=some (.ins C dx fs)) (cl:Cls K C) (ha:findIn K (.ref C) "__class__"=some (some (.builtin "object.__class__")))
   (hn:PySem.W.specialIn K (.builtin "object.__class__") "__get__"=some (some (.builtin "getset_descriptor.__get__"))) (htk:PySem.W.takesIn K (.builtin "object.__class__")=some true)
   (hm:PySem.W.mroIn K C (.type "object")=some true):QT K H (.ref a) (.ref C)
theorem zg0 {x:V}{u t:Value}(I:Inv X pins σ H s)(rx:RelV x u)(ty:QT X.K H x t)(e:PySem.W.kitOne X.K t c=some b)(h:∀tk,Q (.bool b) { s with toks:=tk }) :
  wpAny (model X.prog X.w) A (call (.builtin "isinstance") [u,c]) Q E s:=by
 cases ty with
 | non=>cases (show u=Value.none from rx);exact PySem.W.kia_one PySem.W.kitx_none I.NK True.intro e (fun z=>nomatch z) h
 | bl y=>cases (show u=Value.bool y from rx);exact PySem.W.kia_one PySem.W.kitx_bool I.NK True.intro e (fun z=>nomatch z) h
 | int i=>obtain⟨t,q⟩:=(show ∃t,u=Value.int i t from rx);cases q;exact PySem.W.kia_one PySem.W.kitx_int I.NK True.intro e (fun z=>nomatch z) h
 | str y=>obtain⟨t,q⟩:=(show ∃t,u=Value.str y t from rx);cases q;exact PySem.W.kia_one PySem.W.kitx_str I.NK True.intro e (fun z=>nomatch z) h
 | flt y=>obtain⟨t,q⟩:=(show ∃t,u=Value.float y t from rx);cases q;exact PySem.W.kia_one PySem.W.kitx_float I.NK True.intro e (fun z=>nomatch z) h
 | @lst a xs ea =>
  cases (show u=Value.ref a from rx)
  obtain⟨_,_,n,_,h1⟩:=(show wL X.prog X.w H s.heap a (.lst xs) from I.hok a _ ea)
  exact PySem.W.kia_one PySem.W.kitx_list I.NK ⟨_,h1,rfl⟩ e (fun z=>nomatch z) h
 | @frz a ob xs ea =>
  cases (show u=Value.ref a from rx)
  obtain⟨_,_,_,n,_,h1⟩:=(show wL X.prog X.w H s.heap a (.frz ob (.lst xs)) from I.hok a _ ea)
  exact PySem.W.kia_one PySem.W.kitx_list I.NK ⟨_,h1,rfl⟩ e (fun z=>nomatch z) h
 | @tup a xs ea =>
  cases (show u=Value.ref a from rx)
  obtain⟨_,_,_,p⟩:=(show wL X.prog X.w H s.heap a (.tup xs) from I.hok a _ ea)
  obtain⟨o,h1,h2,_⟩:=p
  exact PySem.W.kia_one PySem.W.kitx_tuple I.NK ⟨o,h1,h2⟩ e (fun z=>nomatch z) h
 | @dK a kvs ea =>
  cases (show u=Value.ref a from rx)
  obtain⟨_,_,vs,_,p⟩:=(show wL X.prog X.w H s.heap a (.dK kvs) from I.hok a _ ea)
  obtain⟨o,es,ep,h1,h2,_⟩:=p
  exact PySem.W.kia_one PySem.W.kitx_dict I.NK ⟨o,h1,h2.1⟩ e (fun z=>nomatch z) h
 | @dT a kvs ea =>
  cases (show u=Value.ref a from rx)
  obtain⟨_,_,xs,_,o,es,ep,h1,h2,_⟩:=(show wL X.prog X.w H s.heap a (.dT kvs) from I.hok a _ ea)
  exact PySem.W.kia_one PySem.W.kitx_dict I.NK ⟨o,h1,h2.1⟩ e (fun z=>nomatch z) h
 | @ins a C dx fs ea cl ha hn htk hm =>
  cases (show u=Value.ref a from rx)
  obtain⟨mA,O,_⟩:=Jl I.hok ea
  obtain⟨od,J,_⟩:=O.look
  exact PySem.W.kia_one (PySem.W.kitx_own (cl.get _) cl.hd ha hn htk hm) I.NK J e (fun z=>nomatch z) h
end
structure ZJ (k:Nat)(A:Around):Prop where
 hd:A.handled=none
 gd:A.guards=some []
 dp:A.depth+3*k+5<recursionLimit
 un:A.units+16*k+200<cLine
theorem ZJ.mono {j k:Nat}{A:Around}(r:ZJ k A)(h:j<=k):ZJ j A:=⟨r.hd,r.gd,by have:=r.dp;omega,by have:=r.un;omega⟩
theorem ZJ.deeper {k:Nat}{A:Around}(r:ZJ (k+1) A)(env:Env):ZJ k (A.deeper env) :=
 ⟨r.hd,r.gd,by have:=r.dp;show A.depth+1+3*k+5<_;omega,by have:=r.un;show A.units+3+16*k+200<_;omega⟩
theorem zeY {A:Around}{C:Addr}{us:List Value}{kw:List (Str×Value)}:(A.under (.builtin "type.__call__" ⟨.ref C::us,kw⟩)).depth=A.depth+1:=by
 first | rfl | simp[Around.under,Code.weight,Code.isCreation,Code.isGuard,Code.isCaller,Code.frames,Code.isFrame,guardIds]
theorem zeZ {A:Around}{C:Addr}{us:List Value}{kw:List (Str×Value)}:(A.under (.builtin "type.__call__" ⟨.ref C::us,kw⟩)).units=A.units+1:=by
 first | rfl | simp[Around.under,Code.cUnits,Code.frames,Code.isFrame]
theorem ZJ.make {k:Nat}{A:Around}(r:ZJ (k+1) A)(C:Addr)(us:List Value)(kw:List (Str×Value)):ZJ k (A.under (.builtin "type.__call__" ⟨.ref C::us,kw⟩)) :=
 ⟨r.hd,(by
  have e:(Code.builtin "type.__call__" ⟨.ref C::us,kw⟩).guards=[]:=by first | rfl | simp[Code.guards,Code.isGuard,guardIds]
  unfold Around.under
  simp only[e,pushGuards]
  exact r.gd),by have:=r.dp;rw[zeY];omega,by have:=r.un;rw[zeZ];omega⟩
theorem ZJ.depth {k:Nat}{A:Around}(r:ZJ k A):A.depth<recursionLimit:=by have:=r.dp;omega
theorem ZJ.units {k:Nat}{A:Around}(r:ZJ k A):A.units+64<cLine:=by have:=r.un;omega
def zbj:TA:=fun _ H Q=>Q [] H
def U8 (ta:TE)(tr:TA):TA:=fun σ H Q=>ta σ H fun x H1=>tr σ H1 fun xs H2=>Q (x::xs) H2
section
variable {X:Cx}{e:Expr}{es:List Expr}{te:TE}{t:TA}{pos:Pos}
theorem zc:PA X [] zbj:=fun _ _ _ _ H Q I h=>Calls.spliced_nil ⟨[],H,I,.nil,h⟩
theorem za (ha:PE X e te)(hr:PA X es t)(hs:starEach (e::es) X.env=(false,eval e X.env)::starEach es X.env:=by rfl):PA X (e::es) (U8 te t):=by
 intro pos pins s σ H Q I h
 rw[hs]
 show wpAny _ _ (spliced ((false,eval e X.env)::backTo pos (starEach es X.env))) _ _ s
 refine Calls.spliced_cons (wM (ha pins s σ H _ I h) fun u s1 ⟨x,H1,I1,r1,q1⟩=>?_)
 exact wM (hr pos pins s1 σ H1 _ I1 q1) fun us s2 ⟨xs,H2,I2,r2,q2⟩=>⟨x::xs,H2,I2,.cons r1 r2,q2⟩
def zoX (t:TA):TE:=fun σ H Q=>t σ H fun xs H1=>xs.length<=sizeLine/\∀p,H1 p=none->Q (.ref p) (upd H1 p (.tup xs))
def zoY (t:TA):TE:=fun σ H Q=>t σ H fun xs H1=>xs.length<=sizeLine/\∀p,H1 p=none->Q (.ref p) (upd H1 p (.lst xs))
theorem vC {x1}(h:PA X es t):PE X (.Tuple es x1 pos) (zoX t):=by
 intro pins s σ H Q I hq
 refine wpAny_Tuple_spliced (wM (h pos pins s σ H _ I hq) fun us s1 ⟨xs,H1,I1,r,z,q⟩=>⟨by rw[<-r.length];exact z,?_⟩)
 have hf:H1 s1.heap.objs.size=none:=I1.hok.fresh (zus _)
 refine⟨.ref s1.heap.objs.size,upd H1 s1.heap.objs.size (.tup xs),I1.laid (t':=s1.toks) (fun b u e=>zui _ e) (zus _) ?_,rfl,q _ hf⟩
 exact⟨z,us,r,⟨_,zuw _ rfl,rfl,_,rfl⟩⟩
theorem vg (h:PA X es t):PE X (.List es pos) (zoY t):=by
 intro pins s σ H Q I hq
 refine wpAny_List_spliced (wM (h pos pins s σ H _ I hq) fun us s1 ⟨xs,H1,I1,r,z,q⟩=>⟨by rw[<-r.length];exact z,?_⟩)
 have hf:H1 s1.heap.objs.size=none:=I1.hok.fresh (zus _)
 refine⟨.ref s1.heap.objs.size,upd H1 s1.heap.objs.size (.lst xs),I1.laid (t':=s1.toks) (fun b u e=>zui _ e) (zus _) ?_,rfl,q _ hf⟩
 exact⟨z,us,0,r,zuw _ rfl⟩
end
abbrev Sp:=List V->Hp->VK->XK->Prop
abbrev CXT:=List Env->Hp->Shared->XK->Value->Shared->Prop
structure ze0 (P:Program)(w:World)(K:Frag)(mg:Str->Option Value)(base:Heap)(A:Around)(outer:List Env)(s:Shared)(H:Hp):Prop where
 frames:A.frames=some outer
 mod:Mod K mg base
 bs:∀b o,base.get? b=some o->s.heap.get? b=some o/\H b=none
 bsz:base.objs.size<=s.heap.objs.size
 Nz:s.heap.FunFrames base outer
 frf:∀b∈frs outer,H b=none
 hok:Rw P w H s.heap
 bare:AllBare s.gens
def CE (outer:List Env)(P:Program)(w:World)(H:Hp)(s:Shared)(Q:VK)(u:Value)(s':Shared):Prop :=
 ∃v H',s'.os=s.os/\AllBare s'.gens/\Un (frs outer) [] H H' s.heap s'.heap/\Rw P w H' s'.heap/\RelV v u/\Q v H'
def CR (CX:CXT)(outer:List Env)(P:Program)(w:World)(H:Hp)(s:Shared)(Q:VK)(E:XK)(r:Result)(s':Shared):Prop :=
 match r with
 | .ok (.ret u)=>CE outer P w H s Q u s'
 | .ok _=>False
 | .error e=>CX outer H s E e s'
structure zA (P:Program)(w:World)(K:Frag)(mg:Str->Option Value)(base:Heap)(CX:CXT)(k:Nat)(f:Addr)(fd:FuncData)(ps:List Str)(sp:Sp):Prop where
 len:∀vs H Q E,sp vs H Q E->vs.length=ps.length
 run:∀(A:Around) (outer:List Env) (s:Shared) (H:Hp) (args:Args) (us:List Value) (vs:List V) (Q:VK) (E:XK),ZJ k A->ze0 P w K mg base A outer s H->BindsTo s fd args (ps.zip us)->Vals vs us->sp vs H Q E ->
  codeAny (model P w) A (.call (.ref f) args) (CR CX outer P w H s Q E) s
theorem zA.mono {P:Program}{w:World}{K:Frag}{mg:Str->Option Value}{base:Heap}{CX:CXT}{j k:Nat}{f:Addr}{fd:FuncData}{ps:List Str}{sp:Sp}(F:zA P w K mg base CX j f fd ps sp)(h:j<=k) :
  zA P w K mg base CX k f fd ps sp:=⟨F.len,fun A outer s H args us vs Q E hr=>F.run A outer s H args us vs Q E (hr.mono h)⟩
theorem ze0.make {P:Program}{w:World}{K:Frag}{mg:Str->Option Value}{base:Heap}{A:Around}{outer:List Env}{s:Shared}{H:Hp}(e:ze0 P w K mg base A outer s H)(C:Addr)(us:List Value)(kw:List (Str×Value)) :
  ze0 P w K mg base (A.under (.builtin "type.__call__" ⟨.ref C::us,kw⟩)) outer s H:=⟨by first | exact e.frames | (simpa [Around.under,Code.envs,Code.isFrame,pushEnvs] using e.frames),e.mod,e.bs,e.bsz,e.Nz,e.frf,e.hok,e.bare⟩
section
variable {X:Cx}{pins:List (Addr×Obj)}{σ:St}{H:Hp}{s s':Shared}
theorem Inv.env0 (I:Inv X pins σ H s):ze0 X.prog X.w X.K X.mg X.base X.A X.stack s H :=
 ⟨I.ok.frames,I.ok.mod,I.bs,zux I.ok.bsz I.sz,I.stack,I.zf6,I.hok,I.bare⟩
theorem Inv.after {Q:VK}{u:Value}(I:Inv X pins σ H s)(h:CE X.stack X.prog X.w H s Q u s'):EP X pins σ Q u s':=by
 obtain⟨v,H',os,bare,un,hok,r,q⟩:=h
 obtain⟨hh,g,d,t,os'⟩:=s'
 obtain rfl:os'=s.os:=os
 exact⟨v,H',I.call (h':=hh) (g':=g) (d':=d) (t':=t) (ch:=[]) un hok bare (fun b z=>absurd z (by simp)),r,q⟩
end
def zbN (sp:Sp)(dvs:List V)(E:XK)(t:TA):TE:=fun σ H Q=>t σ H fun vs H1=>sp (vs++dvs) H1 Q E
def zkU (C:Addr)(m:Str)(sp:Sp)(dvs:List V)(E:XK)(ta:TE)(t:TA):TE:=fun σ H Q=>ta σ H fun x H1=>∃a dx fs,x=.ref a/\H1 a=some (.ins C dx fs)/\fs.lookup m=none /\
 t σ H1 fun vs H2=>sp (x::(vs++dvs)) H2 Q E
def zm0 (C:Addr)(sp:Sp)(dvs:List V)(E:XK)(t:TA):TE:=fun σ H Q=>t σ H fun vs H1=>∀x dx,H1 x=none->H1 dx=none->dx≠x ->
 sp (.ref x::(vs++dvs)) (upd (upd H1 dx (.own x)) x (.ins C dx [])) (fun v H2=>v=.non/\Q (.ref x) H2) E
def Binds (K:Frag)(fd:FuncData)(ps:List Str)(ds:List Value):Prop :=
 ∀(s:Shared) (us:List Value),K.In s.heap->(us++ds).length=ps.length->BindsTo s fd ⟨us,[]⟩ (ps.zip (us++ds))
theorem Binds.all {K:Frag}{fd:FuncData}{ps:List Str}(h:∀us:List Value,us.length=ps.length->bindArgs fd ⟨us,[]⟩=pure (ps.zip us)):Binds K fd ps []:=fun s us _ hl=>by
 rw[List.append_nil] at hl ⊢
 exact .of_eq (h us hl)
def Passes (CX:CXT)(X:Cx)(E:XK):Prop:=∀(pins:List (Addr×Obj)) (σ:St) (H:Hp) (s:Shared) (e:Value) (s':Shared),Inv X pins σ H s->CX X.stack H s E e s'->X.xe e s'
section
variable {X:Cx}{CX:CXT}{k:Nat}{f C:Addr}{fd:FuncData}{ps:List Str}{sp:Sp}{dvs:List V}{ds:List Value}{E:XK}{x m:Str}{p pos apos:Pos}{e o:Expr}{es:List Expr}{ta:TE}{t:TA}
theorem ze1 {pins:List (Addr×Obj)}{σ:St}{H:Hp}{s:Shared}{Q:VK}{us:List Value}{vs:List V}(F:zA X.prog X.w X.K X.mg X.base CX k f fd ps sp)(hr:ZJ k X.A)(hb:Binds X.K fd ps ds)(hd:Vals dvs ds)(hx:Passes CX X E)
  (I:Inv X pins σ H s)(r:Vals vs us)(h:sp (vs++dvs) H Q E):wpAny (model X.prog X.w) X.A (call (.ref f) us) (EP X pins σ Q) X.xe s:=by
 have r2:Vals (vs++dvs) (us++ds):=r.append hd
 have hl:(us++ds).length=ps.length:=by rw[<-r2.length];exact F.len _ _ _ _ h
 refine wpAny_call (codeAny_mono (F.run X.A X.stack s H ⟨us,[]⟩ (us++ds) (vs++dvs) Q E hr I.env0 (hb s us I.NK hl) r2 h) fun r s' hq=>?_)
 cases r with
 | error e=>exact hx pins σ H s e s' I hq
 | ok fl =>
  cases fl with
  | ret u=>exact I.after hq
  | next=>exact False.elim hq
  | brk=>exact False.elim hq
  | cont=>exact False.elim hq
theorem zB (F:zA X.prog X.w X.K X.mg X.base CX k f fd ps sp)(hr:ZJ k X.A)(hg:Gl X x)(hm:X.mg x=some (.ref f))(hk:PySem.W.keepIn X.K (.ref f)=true)(hb:Binds X.K fd ps ds)(hd:Vals dvs ds)(hx:Passes CX X E)
  (ha:PA X (e::es) t)(hdb:(x==("__debug__" : Str))=false:=by decide)(he:starEach (e::es) X.env=(false,eval e X.env)::starEach es X.env:=by rfl)(hpl:(backTo pos (starEach es X.env)).any (·.1)=false:=by rfl) :
  PE X (.Call (.Name x p) (e::es) [] pos) (zbN sp dvs E t):=by
 intro pins s σ H Q I h
 refine wpAny_Call_Name_kw (zcw I hg hm ?_ hdb)
 refine PySem.W.callWith_K (h₀:=X.base) I.ok.mod.kin hk (wM (ha pos pins s σ H _ I h) fun us s1 ⟨vs,H1,I1,r,q⟩=>⟨I1.NK,?_⟩) he hpl
 exact ze1 F hr hb hd hx I1 r q
theorem z9 {pl:Sem Bool}(he:PE X o ta)(c:Cls X.K C)(hm:Meth X.K C m f)(F:zA X.prog X.w X.K X.mg X.base CX k f fd ps sp)(hr:ZJ k X.A)(hb:Binds X.K fd ps ds)(hd:Vals dvs ds)(hx:Passes CX X E)(ha:PA X (e::es) t)
  (hst:starEach (e::es) X.env=(false,eval e X.env)::starEach es X.env:=by rfl)(hpl:(backTo pos (starEach es X.env)).any (·.1)=false:=by rfl)
  (ht:eval (.Call (.Attribute o m apos) (e::es) [] pos) X.env=(do
   let ov <-eval o X.env
   standAt apos.atName
   let (f,first) <-holding [ov] (getMethod ov m pl)
   callWith pos f first (backTo pos (starEach (e::es) X.env)) (backToKw pos (keywordEach [] X.env))):=by rfl) :
  PE X (.Call (.Attribute o m apos) (e::es) [] pos) (zkU C m sp dvs E ta t):=by
 intro pins s σ H Q I h
 refine PySem.W.methodCall_KW (pl:=pl) (wM (he pins s σ H _ I h) fun u s1 ⟨x,H1,I1,rx,a,dx,fs,ex,ea,l,q⟩=>?_) ht
 subst ex
 obtain rfl:u=Value.ref a:=rx
 refine R9 I1 ea c hm l ?_
 refine PySem.W.callWith_K (first:=[.ref a]) (h₀:=X.base) I.ok.mod.kin hm.kp (wM (ha pos pins s1 σ H1 _ I1 q) fun us s2 ⟨vs,H2,I2,r,q2⟩=>⟨I2.NK,?_⟩) hst hpl
 exact ze1 (us:=.ref a::us) (vs:=.ref a::vs) F hr hb hd hx I2 (.cons rfl r) q2
theorem QV {pl:Sem Bool}(he:PE X o ta)(c:Cls X.K C)(hm:Meth X.K C m f)(F:zA X.prog X.w X.K X.mg X.base CX k f fd ps sp)(hr:ZJ k X.A)(hb:Binds X.K fd ps ds)(hd:Vals dvs ds)(hx:Passes CX X E)
  (ht:eval (.Call (.Attribute o m apos) [] [] pos) X.env=(do
   let ov <-eval o X.env
   standAt apos.atName
   let (f,first) <-holding [ov] (getMethod ov m pl)
   callWith pos f first (backTo pos (starEach [] X.env)) (backToKw pos (keywordEach [] X.env))):=by rfl) :
  PE X (.Call (.Attribute o m apos) [] [] pos) (zkU C m sp dvs E ta zbj):=by
 intro pins s σ H Q I h
 refine PySem.W.methodCall_KW (pl:=pl) (wM (he pins s σ H _ I h) fun u s1 ⟨x,H1,I1,rx,a,dx,fs,ex,ea,l,q⟩=>?_) ht
 subst ex
 obtain rfl:u=Value.ref a:=rx
 refine R9 I1 ea c hm l ?_
 exact PySem.W.callWith_K0 (first:=[.ref a]) I1.NK hm.kp (ze1 (us:=[.ref a]) (vs:=[.ref a]) F hr hb hd hx I1 (.cons rfl .nil) q)
structure Mk (K:Frag)(C f:Addr):Prop where
 makes:PySem.W.makesIn K C=true
 init:findIn K (.ref C) "__init__"=some (some (.ref f))
 fn:PySem.W.isFn K (.ref f)=true
 kp:PySem.W.keepIn K (.ref C)=true
theorem zii {pins:List (Addr×Obj)}{σ:St}{H:Hp}{s:Shared}{Q:VK}{us:List Value}{vs:List V}(M:Mk X.K C f)(F:zA X.prog X.w X.K X.mg X.base CX k f fd ps sp)(hr:ZJ (k+1) X.A)(hb:Binds X.K fd ps ds)(hd:Vals dvs ds)
  (hx:Passes CX X E)(I:Inv X pins σ H s)(r:Vals vs us)
  (h:∀x dx,H x=none->H dx=none->dx≠x->sp (.ref x::(vs++dvs)) (upd (upd H dx (.own x)) x (.ins C dx [])) (fun v H2=>v=.non/\Q (.ref x) H2) E) :
  wpAny (model X.prog X.w) X.A (call (.ref C) us) (EP X pins σ Q) X.xe s:=by
 have hq:=h (s.heap.objs.size+1) s.heap.objs.size (I.hok.fresh (Nat.le_succ _)) (I.hok.fresh (zus _)) (zur (Nat.lt_succ_self _))
 have I2:=Inv.made (C:=C) I
 have r2:Vals (V.ref (s.heap.objs.size+1)::(vs++dvs)) (Value.ref (s.heap.objs.size+1)::(us++ds)):=.cons rfl (r.append hd)
 have hl:(Value.ref (s.heap.objs.size+1)::us++ds).length=ps.length:=by
  have e:=r2.length
  rw[F.len _ _ _ _ hq] at e
  exact e.symm
 refine wpAny_call (zih (f:=f) I.NK M.makes M.init (beq_iff_eq.mp M.fn) (codeAny_mono (F.run _ X.stack _ _ ⟨Value.ref (s.heap.objs.size+1)::us,[]⟩ (Value.ref (s.heap.objs.size+1)::(us++ds)) _ _ E (hr.make C us [])
  (I2.env0.make C us []) (hb _ (Value.ref (s.heap.objs.size+1)::us) I2.NK hl) r2 hq) fun r s' hq'=>?_))
 cases r with
 | error e=>exact hx pins σ _ _ e s' I2 hq'
 | ok fl =>
  cases fl with
  | ret u =>
   obtain⟨v,H',I3,rv,ev,q3⟩:=I2.after hq'
   subst ev
   exact⟨rv,⟨V.ref (s.heap.objs.size+1),H',I3,rfl,q3⟩⟩
  | next=>exact False.elim hq'
  | brk=>exact False.elim hq'
  | cont=>exact False.elim hq'
theorem zjF (M:Mk X.K C f)(F:zA X.prog X.w X.K X.mg X.base CX k f fd ps sp)(hr:ZJ (k+1) X.A)(hg:Gl X x)(hm:X.mg x=some (.ref C))(hb:Binds X.K fd ps ds)(hd:Vals dvs ds)(hx:Passes CX X E)
  (ha:PA X (e::es) t)(hdb:(x==("__debug__" : Str))=false:=by decide)(he:starEach (e::es) X.env=(false,eval e X.env)::starEach es X.env:=by rfl)(hpl:(backTo pos (starEach es X.env)).any (·.1)=false:=by rfl) :
  PE X (.Call (.Name x p) (e::es) [] pos) (zm0 C sp dvs E t):=by
 intro pins s σ H Q I h
 refine wpAny_Call_Name_kw (zcw I hg hm ?_ hdb)
 refine PySem.W.callWith_K (h₀:=X.base) I.ok.mod.kin M.kp (wM (ha pos pins s σ H _ I h) fun us s1 ⟨vs,H1,I1,r,q⟩=>⟨I1.NK,?_⟩) he hpl
 exact zii M F hr hb hd hx I1 r q
end
def PK (X:Cx)(kws:List Keyword)(t:TA):Prop :=
 ∀(pos:Pos) (pins:List (Addr×Obj)) (s:Shared) (σ:St) (H:Hp) (Q:List V->Hp->Prop),Inv X pins σ H s->t σ H Q->wpAny (model X.prog X.w) X.A (evalAll ((backToKw pos (keywordEach kws X.env)).map (·.2))) (AP X pins σ Q) X.xe s
section
variable {X:Cx}{CX:CXT}{k:Nat}{f C:Addr}{fd:FuncData}{ps ks:List Str}{sp:Sp}{E:XK}{x m:Str}{p pos apos kpos:Pos}{e o:Expr}{es:List Expr}{kws:List Keyword}{te ta:TE}{t tk:TA}{nm:Option Str}
theorem zlA:PK X [] zbj:=fun _ _ _ _ H Q I h=>wpAny_evalAll_nil ⟨[],H,I,.nil,h⟩
theorem zjG (ha:PE X e te)(hr:PK X kws t):PK X (⟨nm,e,kpos⟩::kws) (U8 te t):=by
 intro pos pins s σ H Q I h
 show wpAny _ _ (evalAll ((do let v <-eval e X.env;standAt pos;pure v)::(backToKw pos (keywordEach kws X.env)).map (·.2))) _ _ s
 refine wpAny_evalAll_cons (wpAny_bind (wM (ha pins s σ H _ I h) fun u s1 ⟨x,H1,I1,r1,q1⟩=>wpAny_bind (wpAny_standAt (wpAny_pure ?_))))
 exact wM (hr pos pins s1 σ H1 _ I1 q1) fun us s2 ⟨xs,H2,I2,r2,q2⟩=>⟨x::xs,H2,I2,.cons r1 r2,q2⟩
variable {g:List Value->List Value->List Value}{gV:List V->List V->List V}
end
structure zK (N P:List Str)(sc:Scope):Prop where
 kind:sc.kind=.function
 co:sc.isCoroutine=false
 gen:sc.isGenerator=false
 nd:N.Nodup
 pre:N.take P.length=P
 par:∀x∈P,sc.names.lookup x=some .local\/sc.names.lookup x=some .cell
 zlB:∀y∈sc.names,y.2≠.free
theorem zbO {kindOf:Str->Option NameKind}{x:Str}:∀{binds:List (Str×Value)} {m:Str->Option Value},(∀v,(x,v)∉binds)->bindL kindOf binds m x=m x
 | [],_,_=>rfl
 | (n,v)::r,m,h=>by
  unfold bindL
  rw[zbO fun w hw=>h w (zun _ hw)]
  split
  ·have:x≠n:=by rintro rfl;exact h v zuv
   simp[this]
  ·rfl
theorem zbP {kindOf:Str->Option NameKind}{x:Str}:∀{binds:List (Str×Value)} {m:Str->Option Value},(∀v,(x,v)∉binds)->bindC kindOf binds m x=m x
 | [],_,_=>rfl
 | (n,v)::r,m,h=>by
  unfold bindC
  rw[zbP fun w hw=>h w (zun _ hw)]
  split
  ·rfl
  ·have:x≠n:=by rintro rfl;exact h v zuv
   simp[this]
theorem zbQ {kindOf:Str->Option NameKind}{x:Str}{v:Value}:∀{P:List Str} {vs:List Value} {i:Nat} {m:Str->Option Value},P.Nodup->P[i]?=some x->vs[i]?=some v->kindOf x=some .local ->
  bindL kindOf (P.zip vs) m x=some v
 | [],_,_,_,_,h,_,_=>by simp at h
 | _::_,[],_,_,_,_,h,_=>by simp at h
 | p::P,w::vs,0,m,nd,h1,h2,hk=>by
  simp at h1 h2;subst h1;subst h2
  show bindL kindOf ((p,w)::P.zip vs) m p=_
  unfold bindL
  rw[zbO fun v hv=>(List.nodup_cons.mp nd).1 (List.of_mem_zip hv).1,if_pos hk]
  simp
 | p::P,w::vs,i+1,m,nd,h1,h2,hk=>by
  show bindL kindOf ((p,w)::P.zip vs) m x=_
  unfold bindL
  exact zbQ (i:=i) (List.nodup_cons.mp nd).2 (by simpa using h1) (by simpa using h2) hk
theorem zbR {kindOf:Str->Option NameKind}{x:Str}{v:Value}:∀{P:List Str} {vs:List Value} {i:Nat} {m:Str->Option Value},P.Nodup->P[i]?=some x->vs[i]?=some v->kindOf x≠some .local ->
  bindC kindOf (P.zip vs) m x=some v
 | [],_,_,_,_,h,_,_=>by simp at h
 | _::_,[],_,_,_,_,h,_=>by simp at h
 | p::P,w::vs,0,m,nd,h1,h2,hk=>by
  simp at h1 h2;subst h1;subst h2
  show bindC kindOf ((p,w)::P.zip vs) m p=_
  unfold bindC
  rw[zbP fun v hv=>(List.nodup_cons.mp nd).1 (List.of_mem_zip hv).1,if_neg hk]
  simp
 | p::P,w::vs,i+1,m,nd,h1,h2,hk=>by
  show bindC kindOf ((p,w)::P.zip vs) m x=_
  unfold bindC
  exact zbR (i:=i) (List.nodup_cons.mp nd).2 (by simpa using h1) (by simpa using h2) hk
def start (N:List Str)(vs:List V):St:=vs.map some++List.replicate (N.length-vs.length) none
def zg2 (CX:CXT)(P:Program)(w:World)(K:Frag)(mg:Str->Option Value)(base:Heap)(N:List Str)(qual:Str)(scope:Scope)(f:Addr)(cd:Value)(A:Around)(outer:List Env)(s:Shared)(H:Hp)(E:XK):Cx where
 prog:=P
 w:=w
 K:=K
 mg:=mg
 base:=base
 A:=A.deeper (envOfC qual scope s.heap.objs.size f cd)
 N:=N
 s₀:=s
 H₀:=H
 env:=envOfC qual scope s.heap.objs.size f cd
 outer:=outer
 stack:=envOfC qual scope s.heap.objs.size f cd::outer
 ex:=[]
 calm:=true
 fn:=fun _=>true
 pn:=[]
 xe:=fun e s'=>wpAny (model P w) (A.deeper (envOfC qual scope s.heap.objs.size f cd)) (leaving (envOfC qual scope s.heap.objs.size f cd) e) (fun _ s''=>CX outer H s E e s'') (fun e' s''=>CX outer H s E e' s'') s'
theorem zdz {sc:Scope}{n:Nat}{x:Str}(h:sc.names.lookup x=some .cell):∃c,(cellsFrom n sc.names []).lookup x=some c:=by
 have q:=PySem.W.cellsFrom_some sc.names n [] (.inl h)
 exact Option.isSome_iff_exists.mp q
theorem zg3 {CX:CXT}{P:Program}{w:World}{K:Frag}{mg:Str->Option Value}{base:Heap}{N ps:List Str}{qual:Str}{scope:Scope}{f:Addr}{cd:Value}{A:Around}{outer:List Env}{s s1:Shared}{H:Hp}{E:XK}{us:List Value}{vs:List V}
  (S:zK N ps scope)(hd:A.handled=none)(e0:ze0 P w K mg base A outer s H)(hl:vs.length=ps.length)(r:Vals vs us)
  (x:InCallC s s.heap.objs.size (bindL (envOfC qual scope s.heap.objs.size f cd).kindOf (ps.zip us) fun _=>none) (cellsFrom (s.heap.objs.size+1) scope.names []) (bindC (envOfC qual scope s.heap.objs.size f cd).kindOf (ps.zip us) fun _=>none) s1) :
  Inv (zg2 CX P w K mg base N qual scope f cd A outer s H E) [] (start N vs) H s1:=by
 have hpl:ps.length<=N.length:=by have:=congrArg List.length S.pre;rw[zuz] at this;omega
 obtain⟨h1,tk,rfl,hk⟩:=x.done
 have noA:∀b:Addr,b∉(zg2 CX P w K mg base N qual scope f cd A outer s H E).ex:=fun b z=>absurd (show b∈([]:List Addr) from z) (by simp)
 refine⟨⟨e0.mod,S.kind,rfl,rfl,zus _,fun y z c h1 h2=>?_,fun y hy=>?_,fun y c _ h=>?_,fun _=>hd,Around.frames_deeper e0.frames,.inr ⟨rfl,rfl⟩,fun b z=>absurd z (noA b),e0.bs,e0.bsz,fun b _ _=>noA b,fun b z=>absurd z (noA b),e0.Nz,e0.frf⟩,
  rfl,e0.bare,Un.kept hk,⟨_,x.toInCall.ns,fun i y v h1 h2 h3=>?_⟩,fun y c h=>⟨_,x.cell y c h⟩,e0.hok.fresh (zus _),fun y c h=>?_,fun p hp=>absurd (show p∈([]:List (Addr×Obj)) from hp) (by simp),e0.hok.kept hk,?_⟩
 ·exact name_of_addr x.apart (PySem.mem_of_lookup h1) (PySem.mem_of_lookup h2)
 ·have hy:scope.names.lookup y=some .cell\/scope.names.lookup y=some .free:=hy
  rcases hy with hy | hy
  ·exact zdz hy
  ·exact absurd rfl (S.zlB _ (PySem.mem_of_lookup hy))
 ·exact zuu (x.above y c (PySem.mem_of_lookup h))
 ·have hi:i<vs.length:=by
   unfold start at h2
   by_cases hi:i<vs.length
   ·exact hi
   ·rw[List.getElem?_append_right (by simpa using hi)] at h2
    rw[List.getElem?_replicate] at h2
    split at h2<;>cases h2
  have ha:vs[i]?=some v:=by
   unfold start at h2
   rw[zuI (by simpa using hi),zue] at h2
   cases e:vs[i]? with
   | none=>rw[e] at h2;cases h2
   | some a=>rw[e] at h2;cases h2;rfl
  obtain⟨u,hu,rv⟩:=r.get ha
  have hp:ps[i]?=some y:=by
   rw[<-S.pre,List.getElem?_take_of_lt (by omega)];exact h1
  have ndP:ps.Nodup:=by rw[<-S.pre];exact S.nd.sublist (List.take_sublist _ _)
  refine⟨u,rv,?_⟩
  rcases S.par y (zuh hp) with k | k
  ·exact .inl ⟨k,zbQ ndP hp hu k⟩
  ·obtain⟨c,e⟩:=zdz (n:=s.heap.objs.size+1) k
   refine .inr ⟨.inl k,c,e,?_⟩
   have q:=x.cell y c e
   rw[zbR ndP hp hu (by show scope.names.lookup y≠_;rw[k];decide)] at q
   exact q
 ·exact e0.hok.fresh (zuu (x.above y c (PySem.mem_of_lookup h)))
 ·unfold start
  show _=N.length
  rw[zuk,zuc,List.length_replicate]
  omega
theorem zm2 {CX:CXT}{P:Program}{w:World}{K:Frag}{mg:Str->Option Value}{base:Heap}{k:Nat}{f:Addr}{name qual:Str}{params:Arguments}{body:List Stmt}{scope:Scope}{dV kV doc pm cdv ct oc:Value}{an od:Option Addr}
  {osl:Array (Option Value)}{N ps:List Str}{sp:Sp}(lk:K.lookup f=some ⟨oc,od,.func (PySem.W.fnOf name qual params body scope dV kV doc pm an cdv ct),osl⟩)(hcd:PySem.W.codeIn K cdv qual=true)(S:zK N ps scope)
  (len:∀vs H Q E,sp vs H Q E->vs.length=ps.length)
  (hbody:∀(A:Around) (outer:List Env) (s:Shared) (H:Hp) (vs:List V) (Q:VK) (E:XK),ZJ k (A.deeper (envOfC qual scope s.heap.objs.size f cdv))->sp vs H Q E ->
   ∃t,PSs (zg2 CX P w K mg base N qual scope f cdv A outer s H E) body t/\t { nx:=fun _ H'=>Q .non H',rt:=Q } (start N vs) H) :
  zA P w K mg base CX (k+1) f (PySem.W.fnOf name qual params body scope dV kV doc pm an cdv ct) ps sp:=by
 refine⟨len,fun A outer s H args us vs Q E hr e0 hb r hsp=>?_⟩
 have hl:=len _ _ _ _ hsp
 have KX:K.In s.heap:=e0.mod.kin.keeps fun b o e=>(e0.bs b o e).1
 have lim:s.heap.NoLimit:=e0.mod.nolimit.keeps fun b o e=>(e0.bs b o e).1
 have hkind:∀y∈ps.zip us,scope.names.lookup y.1=some .local\/(scope.names.lookup y.1=some .cell/\((cellsFrom (s.heap.objs.size+1) scope.names []).lookup y.1).isSome=true):=fun⟨n,v⟩ hy=>by
  rcases S.par n (List.of_mem_zip hy).1 with q | q
  ·exact .inl q
  ·exact .inr ⟨q,PySem.W.cellsFrom_some _ _ _ (.inl q)⟩
 refine codeAny_call_function hr.depth (KX _ _ lk) rfl S.co S.gen rfl (PySem.W.codeRec_of KX hcd) (hb _ _ _ _ ?_)
 refine wpAny_newFunctionEnv_cells S.kind hkind fun env he s1 x=>?_
 subst he
 refine⟨lim.keeps x.toInCall.keep,codeAny_func ?_⟩
 obtain⟨t,ht,hq⟩:=hbody A outer s H vs Q E (hr.deeper _) hsp
 have I:Inv (zg2 CX P w K mg base N qual scope f cdv A outer s H E) [] (start N vs) H s1:=zg3 S hr.hd e0 hl r x
 refine wpAny_mono (ht [] s1 (start N vs) H _ I hq) (fun fl s' hs=>?_) fun e s' hs=>hs
 have fin:∀{σ':St} {H':Hp} {v:V} {u:Value},Inv (zg2 CX P w K mg base N qual scope f cdv A outer s H E) [] σ' H' s'->RelV v u->Q v H'->CE outer P w H s Q u s' :=
  fun {σ' H' v u} J rv q=>⟨v,H',J.os,J.bare,J.base,J.hok,rv,q⟩
 cases fl with
 | ret u =>
  obtain⟨v,σ',H',J,rv,q⟩:=hs
  exact fin J rv q
 | next =>
  obtain⟨σ',H',J,q⟩:=hs
  exact fin (v:=V.non) (u:=Value.none) J rfl q
 | brk =>
  obtain⟨_,_,_,q⟩:=hs
  exact False.elim q
 | cont =>
  obtain⟨_,_,_,q⟩:=hs
  exact False.elim q
section
variable {X:Cx}{x:Str}{p pos:Pos}{e:Expr}{es:List Expr}{t:TA}{id T:String}{r:List V->Hp->VK->Prop}
def tCB (r:List V->Hp->VK->Prop)(t:TA):TE:=fun σ H Q=>t σ H fun vs H1=>r vs H1 Q
theorem zJ (hc:Wc X (.builtin id) r)(hg:Gl X x)(hm:X.mg x=none)(hv:bootBuiltins x=some (.builtin id))(ha:PA X (e::es) t)(hn:x ≠ "__name__" := by decide)(hdb:(x==("__debug__" : Str))=false:=by decide)
  (he:starEach (e::es) X.env=(false,eval e X.env)::starEach es X.env:=by rfl)(hpl:(backTo pos (starEach es X.env)).any (·.1)=false:=by rfl):PE X (.Call (.Name x p) (e::es) [] pos) (tCB r t):=by
 intro pins s σ H Q I h
 refine wpAny_Call_Name_kw (Vr I hg hm hv ?_ hn hdb)
 exact PyProof.Rows.callWith_builtin1 (wM (ha pos pins s σ H _ I h) fun us s1 ⟨vs,H1,I1,r1,q1⟩=>hc pins s1 σ H1 vs us Q I1 r1 q1) he hpl
theorem Sq (hc:Wc X (.type T) r)(hg:Gl X x)(hm:X.mg x=none)(hv:bootBuiltins x=some (.type T))(ha:PA X (e::es) t)(hn:x ≠ "__name__" := by decide)(hdb:(x==("__debug__" : Str))=false:=by decide)
  (he:starEach (e::es) X.env=(false,eval e X.env)::starEach es X.env:=by rfl)(hpl:(backTo pos (starEach es X.env)).any (·.1)=false:=by rfl):PE X (.Call (.Name x p) (e::es) [] pos) (tCB r t):=by
 intro pins s σ H Q I h
 refine wpAny_Call_Name_kw (Vr I hg hm hv ?_ hn hdb)
 exact PyProof.Rows.callWith_type1 (wM (ha pos pins s σ H _ I h) fun us s1 ⟨vs,H1,I1,r1,q1⟩=>hc pins s1 σ H1 vs us Q I1 r1 q1) he hpl
end
end L2
namespace HT
open PySem PyProof.Rows
section
variable {prog:Program}{w:World}{A:Around}{E:Value->Shared->Prop}{s:Shared}
def Zf (n d:Nat):Option Int->Nat
 | none=>d
 | some v=>if v<0 then (v+(n:Int)).toNat else min v.toNat n
theorem zdA (n d:Nat):Zf n d none=d:=rfl
theorem Vt (n d k:Nat):Zf n d (some (k:Int))=min k n:=by
 show(if (k:Int)<0 then ((k:Int)+(n:Int)).toNat else min (k:Int).toNat n)=min k n
 rw[if_neg (by omega),zuO]
theorem zlC (n d:Nat)(hd:d<=n)(o:Option Int):Zf n d o<=n:=by
 cases o with
 | none=>exact hd
 | some v =>
  show(if v<0 then (v+(n:Int)).toNat else min v.toNat n)<=n
  by_cases hv:v<0
  ·rw[if_pos hv];omega
  ·rw[if_neg hv];exact Nat.min_le_right _ _
theorem zgc (v:Int)(n d:Nat):(if v<0 then max (v+(n:Int)) 0 else min v (n:Int))=((Zf n d (some v):Nat):Int):=by
 show(if v<0 then max (v+(n:Int)) 0 else min v (n:Int))=(((if v<0 then (v+(n:Int)).toNat else min v.toNat n):Nat):Int)
 by_cases hv:v<0
 ·simp only[if_pos hv];omega
 ·simp only[if_neg hv];omega
theorem ze2 (lo hi:Option Int)(n:Nat):Builtin.Slice.sliceAdjust lo hi 1 (n:Int)=(((Zf n 0 lo:Nat):Int),((Zf n n hi:Nat):Int)):=by
 have h1:¬((1:Int)<0):=by omega
 unfold Builtin.Slice.sliceAdjust
 simp only[h1,if_false]
 refine Prod.ext ?_ ?_
 ·cases lo with
  | none=>rfl
  | some v=>exact zgc v n 0
 ·cases hi with
  | none=>rfl
  | some v=>exact zgc v n n
theorem ze3 (i j:Nat):Builtin.Slice.slicePlaces (i:Int) (j:Int) 1=j-i:=by
 unfold Builtin.Slice.slicePlaces
 have h1:(1:Int) > 0:=by omega
 simp only[h1,if_true,Int.ediv_one]
 split<;>omega
theorem JT {v:Value}{o:Option Int}{Q:Option Int->Shared->Prop}(p:IsPart v o)(h:Q o s):wpAny (model prog w) A (Builtin.Slice.slicePartIndex v) Q E s:=by
 cases p with
 | none=>exact slicePart_none h
 | int i t=>exact slicePart_int h
theorem NZ {sl:Addr}{vl vu:Value}{lo hi:Option Int}{n:Nat}{Q:Int×Int×Nat->Shared->Prop}(hs:s.heap.IsSliceOf sl vl vu .none)(pl:IsPart vl lo)(pu:IsPart vu hi)
  (h:Q (((Zf n 0 lo:Nat):Int),1,Zf n n hi-Zf n 0 lo) s):wpAny (model prog w) A (Builtin.Slice.sliceApplied (.ref sl) (pure (n:Int))) Q E s:=by
 obtain⟨os,hos,hcs,hds⟩:=id hs
 unfold Builtin.Slice.sliceApplied Builtin.Slice.sliceFields
 refine wpAny_bind (wpAny_bind (wpAny_field hos hds (x:=vl) rfl (wpAny_bind (wpAny_field hos hds (x:=vu) rfl (wpAny_bind (wpAny_field hos hds (x:=.none) rfl (wpAny_pure ?_)))))))
 refine wpAny_bind (slicePart_none ?_)
 show wpAny _ _ (if ((1:Int)==0)=true then _ else _) _ _ s
 rw[if_neg (by decide)]
 refine wpAny_bind (JT pl (wpAny_bind (JT pu (wpAny_bind (wpAny_pure ?_)))))
 show wpAny _ _ (match Builtin.Slice.sliceAdjust lo hi 1 (n:Int) with | (lo,hi)=>pure (lo,(1:Int),Builtin.Slice.slicePlaces lo hi 1)) _ _ s
 rw[ze2 lo hi n]
 show wpAny _ _ (pure (((Zf n 0 lo:Nat):Int),(1:Int),Builtin.Slice.slicePlaces ((Zf n 0 lo:Nat):Int) ((Zf n n hi:Nat):Int) 1)) _ _ s
 rw[ze3]
 exact wpAny_pure h
theorem zij (xs:Array Value)(i k:Nat):((List.range k).filterMap fun(m:Nat)=>xs[((i:Int)+(m:Int)*1).toNat]?).toArray=((xs.toList.drop i).take k).toArray:=by
 have e:(fun(m:Nat)=>xs[((i:Int)+(m:Int)*1).toNat]?)=fun m=>xs[i+m]?:=by
  funext m
  have:((i:Int)+(m:Int)*1).toNat=i+m:=by omega
  rw[this]
 rw[e]
 have:=pick_run xs i k
 rw[List.filterMap_map] at this
 have e2:((fun x=>xs[x]?) ∘ fun x=>i+x)=fun m=>xs[i+m]?:=rfl
 rw[e2] at this
 rw[this]
theorem QW {t sl:Addr}{items:Array Value}{vl vu:Value}{lo hi:Option Int}{Q:Value->Shared->Prop}(ht:IsTup s.heap t items)(hs:s.heap.IsSliceOf sl vl vu .none)(pl:IsPart vl lo)(pu:IsPart vu hi)
  (hw:¬(Zf items.size 0 lo=0/\Zf items.size items.size hi=items.size))
  (h:Q (.ref s.heap.objs.size) { s with heap:=s.heap.push { cls:=.type "tuple", data:=.seq ((items.toList.drop (Zf items.size 0 lo)).take (Zf items.size items.size hi-Zf items.size 0 lo)).toArray } })
  (hsz:items.size<=sizeLine):wpAny (model prog w) A (getItem (.ref t) (.ref sl)) Q E s:=by
 have zgd:sizeOk (.seq ((items.toList.drop (Zf items.size 0 lo)).take (Zf items.size items.size hi-Zf items.size 0 lo)).toArray):=by
  show((items.toList.drop (Zf items.size 0 lo)).take (Zf items.size items.size hi-Zf items.size 0 lo)).toArray.size<=sizeLine
  rw[zum,zuz,List.length_drop,Array.length_toList]
  omega
 have hj:Zf items.size items.size hi<=items.size:=zlC _ _ (zus _) hi
 obtain⟨os,hos,hcs,hds⟩:=id hs
 have hTs:s.TypeIs (.ref sl) "slice" := ⟨os,hos,hcs⟩
 unfold getItem
 try with_reducible refine wpAny_holding ?_
 first | refine wpAny_bind (wpAny_pure ?_) | skip
 refine wpAny_bind (wpAny_sequenceKey ht.typeIs (by decide) ?_)
 refine wpAny_bind (wpAny_callSpecial?_slot (name:=Str.ofString "__getitem__") ht.typeIs PyProof.Rows.slot_tuple_getitem
  (wpAny_call_entry PyProof.Rows.slot_tuple_getitem ht.typeIs entry_tuple_getitem ?_ (args_tuple_getitem _ _)))
 show wpAny _ _ (Builtin.Tuple.tupleItemsOf (.ref t)>>=_) _ _ s
 refine wpAny_bind (tupleItemsOf_ ht ?_)
 refine wpAny_bind (wpAny_typeOf hTs ?_)
 rw[if_pos (by decide)]
 refine wpAny_bind (NZ hs pl pu ?_)
 have hno:¬((((Zf items.size 0 lo:Nat):Int)==0&&(1:Int)==1&&(Zf items.size items.size hi-Zf items.size 0 lo)==items.size)=true):=by
  intro q
  rw[zuD,zuD] at q
  have q1:((Zf items.size 0 lo:Nat):Int)=0:=eq_of_beq q.1.1
  have q2:Zf items.size items.size hi-Zf items.size 0 lo=items.size:=eq_of_beq q.2
  exact hw ⟨by omega,by omega⟩
 show wpAny _ _ (if (((Zf items.size 0 lo:Nat):Int)==0&&(1:Int)==1&&(Zf items.size items.size hi-Zf items.size 0 lo)==items.size)=true then _ else _) _ _ s
 rw[if_neg hno,zij]
 first
  | exact wpAny_bind (m:=Builtin.Tuple.tupleExact _) (wpAny_newObj_type (wpAny_pure ⟨_,rfl,wpAny_pure h⟩) zgd)
  | exact wpAny_bind (m:=Builtin.Tuple.tupleExact _) (wpAny_newObj_type (wpAny_bind (wpAny_pure (wpAny_pure ⟨_,rfl,wpAny_pure h⟩))) zgd)
  | exact wpAny_bind (wpAny_bind (m:=Builtin.Tuple.tupleExact _) (wpAny_newObj_type (wpAny_pure (wpAny_pure ⟨_,rfl,wpAny_pure h⟩)) zgd))
  | exact wpAny_bind (wpAny_bind (m:=Builtin.Tuple.tupleExact _) (wpAny_newObj_type (wpAny_pure ⟨_,rfl,wpAny_pure h⟩) zgd))
end
end HT
namespace L2
open PySem PySem.Spec PyProof.Rows
abbrev TO:=St->Hp->(Option Int->Hp->Prop)->Prop
def PO (X:Cx)(e:Option Expr)(t:TO):Prop :=
 ∀(pins:List (Addr×Obj)) (s:Shared) (σ:St) (H:Hp) (Q:Option Int->Hp->Prop),Inv X pins σ H s->t σ H Q ->
  wpAny (model X.prog X.w) X.A (evalPart e X.env) (fun u s'=>∃o H',Inv X pins σ H' s'/\IsPart u o/\Q o H') X.xe s
def zjH:TO:=fun _ H Q=>Q none H
def zm3 (t:TE):TO:=fun σ H Q=>t σ H fun x H1=>∃i,x=.int i/\Q (some i) H1
theorem intsAre_of {ns:List Int}:∀{us:List Value},Vals (ns.map V.int) us->IntsAre us ns:=by
 induction ns with
 | nil=>intro us r;rw[List.map_nil] at r;cases r;exact .nil
 | cons n ns ih =>
  intro us r
  rw[zuA] at r
  cases r with
  | cons r1 r2 =>
   obtain⟨t,e⟩:=r1
   subst e
   exact .cons n t (ih r2)
section
variable {X:Cx}{e:Expr}{te:TE}{lo hi:Option Expr}{tl th:TO}{pos p2:Pos}
theorem zge:PO X none zjH:=by
 intro pins s σ H Q I h
 rw[evalPart_none]
 exact wpAny_pure ⟨none,H,I,.none,h⟩
theorem Ss (h:PE X e te):PO X (some e) (zm3 te):=by
 intro pins s σ H Q I hw
 rw[evalPart_some]
 refine wM (h pins s σ H _ I hw) fun u s1 ⟨x,H1,I1,r1,q1⟩=>?_
 obtain⟨i,rfl,q⟩:=q1
 obtain⟨t,rfl⟩:=r1
 exact⟨some i,H1,I1,.int i t,q⟩
def SlR (X:Cx)(r:V->Option Int->Option Int->Hp->VK->Prop):Prop :=
 ∀(pins:List (Addr×Obj)) (s:Shared) (σ:St) (H:Hp) (x:V) (v vl vu:Value) (lo hi:Option Int) (sl:Addr) (Q:VK),Inv X pins σ H s->RelV x v->s.heap.IsSliceOf sl vl vu .none->IsPart vl lo->IsPart vu hi->r x lo hi H Q ->
  ∃T id,typeLookup (.type T) "__getitem__"=pure (some (.builtin id))/\s.TypeIs v T/\wpAny (model X.prog X.w) X.A (getItem v (.ref sl)) (EP X pins σ Q) X.xe s
def tSl (r:V->Option Int->Option Int->Hp->VK->Prop)(te:TE)(tl th:TO):TE:=fun σ H Q=>te σ H fun x H1=>tl σ H1 fun l H2=>th σ H2 fun u H3=>r x l u H3 Q
theorem QX {r:V->Option Int->Option Int->Hp->VK->Prop}(hr:SlR X r)(he:PE X e te)(hl:PO X lo tl)(hu:PO X hi th):PE X (.Subscript e (.Slice lo hi none p2) pos) (tSl r te tl th):=by
 intro pins s σ H Q I h
 refine Subscript_ (wM (he pins s σ H _ I h) fun v s1 ⟨x,H1,I1,r1,q1⟩=>?_)
 refine wpAny_Slice (wM (hl pins s1 σ H1 _ I1 q1) fun vl s2 ⟨l,H2,I2,pl,q2⟩=>wM (hu pins s2 σ H2 _ I2 q2) fun vu s3 ⟨u,H3,I3,pu,q3⟩=>?_)
 rw[evalPart_none]
 refine wpAny_pure ?_
 have I4:Inv X pins σ H3 { s3 with heap:=s3.heap.push { cls:=.type "slice", data:=.fields #[vl,vu,.none] } }:=I3.kept (t':=s3.toks) fun b ob q=>zui _ q
 obtain⟨T,id,hT,ht,hg⟩:=hr pins { s3 with heap:=s3.heap.push { cls:=.type "slice", data:=.fields #[vl,vu,.none] } } σ H3 x v vl vu l u s3.heap.objs.size Q I4 r1 (Heap.IsSliceOf.new ..) pl pu q3
 show wpAny (model X.prog X.w) X.A (subscriptTail e (.Slice lo hi none p2) v (.ref s3.heap.objs.size)) (EP X pins σ Q) X.xe { s3 with heap:=s3.heap.push { cls:=.type "slice", data:=.fields #[vl,vu,.none] } }
 exact tail_any (ops:=[.ref s3.heap.objs.size,v]) ht hT hg (by with_unfolding_all rfl)
def Qa (xs:List V)(lo hi:Option Int):List V:=(xs.drop (HT.Zf xs.length 0 lo)).take (HT.Zf xs.length xs.length hi-HT.Zf xs.length 0 lo)
theorem Kl (xs:List V)(lo hi:Option Int):(Qa xs lo hi).length<=xs.length:=by
 unfold Qa
 rw[zuz,List.length_drop]
 omega
def zo0 (K:Frag):V->Option Int->Option Int->Hp->VK->Prop:=fun x lo hi H Q=>∃a xs,x=.ref a/\wK K H a xs /\
 ¬(HT.Zf xs.length 0 lo=0/\HT.Zf xs.length xs.length hi=xs.length)/\∀p,H p=none->Q (.ref p) (upd H p (.tup (Qa xs lo hi)))
theorem zik:SlR X (zo0 X.K):=by
 intro pins s σ H x v vl vu lo hi sl Q I rx hs pl pu h
 obtain⟨a,xs,rfl,hx,hw,q⟩:=h
 cases rx
 obtain⟨its,r,ht,hz⟩:=I.tuple hx
 have hlen:its.toArray.size=xs.length:=by rw[zum];exact r.length.symm
 refine⟨"tuple", _,PyProof.Rows.slot_tuple_getitem.lookup,ht.typeIs,?_⟩
 refine HT.QW ht hs pl pu (by rw[hlen];exact hw) ?_ (by rw[hlen];exact hz)
 rw[hlen]
 refine⟨.ref s.heap.objs.size,_,I.laid (t':=s.toks) (o:=.tup (Qa xs lo hi)) (fun b ob q=>zui _ q) (zus _) ?_,rfl,q _ (I.hok.fresh (zus _))⟩
 exact⟨zux (Kl xs lo hi) hz,_,(r.drop (HT.Zf xs.length 0 lo)).take (HT.Zf xs.length xs.length hi-HT.Zf xs.length 0 lo),IsTup.new _ _⟩
end
def ixN (n:Nat)(i:Int):Option Nat:=if 0<=i then (if i<n then some i.toNat else none) else if -(n:Int)<=i then some (i+n).toNat else none
def atI {α:Type}(xs:List α)(i:Int):Option α:=(ixN xs.length i).bind fun j=>xs[j]?
theorem zgf {n:Nat}{i:Int}{j:Nat}(h:ixN n i=some j):seqIndex? i n=some j/\j<n/\-(n:Int)<=i/\i<n:=by
 unfold ixN at h
 by_cases h0:0<=i
 ·rw[if_pos h0] at h
  by_cases h1:i<n
  ·rw[if_pos h1] at h
   have e:i.toNat=j:=zuG h
   exact⟨by rw[seqIndex_of h0 h1,e],by omega,by omega,h1⟩
  ·rw[if_neg h1] at h;cases h
 ·rw[if_neg h0] at h
  by_cases h1:-(n:Int)<=i
  ·rw[if_pos h1] at h
   have e:(i+n).toNat=j:=zuG h
   exact⟨by rw[seqIndex_neg (by omega) h1,e],by omega,h1,by omega⟩
  ·rw[if_neg h1] at h;cases h
theorem zcC {α:Type}{xs:List α}{i:Int}{v:α}(h:atI xs i=some v):∃j,seqIndex? i xs.length=some j/\xs[j]?=some v/\j<xs.length/\-(xs.length:Int)<=i/\i<xs.length:=by
 unfold atI at h
 cases e:ixN xs.length i with
 | none=>rw[e] at h;cases h
 | some j =>
  rw[e] at h
  obtain⟨h1,h2,h3,h4⟩:=zgf e
  exact⟨j,h1,h,h2,h3,h4⟩
theorem Zg {α:Type}{xs:List α}{j:Nat}{v:α}(h:xs[j]?=some v):atI xs (j:Int)=some v:=by
 have hj:j<xs.length:=(zuf.mp h).1
 have e:ixN xs.length (j:Int)=some j:=by
  unfold ixN
  rw[if_pos (by omega),if_pos (by omega)];simp
 unfold atI;rw[e];exact h
def zjJ (b:Expr):Prop:=∀o i,subscripted b false o i=operate [o,i] (getItem o i)
def IxR (X:Cx)(r:R2):Prop :=
 ∀(value slice:Expr) (pins:List (Addr×Obj)) (s:Shared) (σ:St) (H:Hp) (x y:V) (v u:Value) (Q:VK),Inv X pins σ H s->RelV x v->RelV y u->r x y H Q ->
  subscripted slice false v u=operate [v,u] (getItem v u)->wpAny (model X.prog X.w) X.A (subscriptTail value slice v u) (EP X pins σ Q) X.xe s
def MtR (X:Cx)(id:String)(r:V->List V->Hp->VK->Prop):Prop :=
 ∀(pins:List (Addr×Obj)) (s:Shared) (σ:St) (H:Hp) (x:V) (xs:List V) (v:Value) (us:List Value) (Q:VK),Inv X pins σ H s->RelV x v->Vals xs us->r x xs H Q ->
  wpAny (model X.prog X.w) X.A (call (.builtin id) (v::us)) (EP X pins σ Q) X.xe s
section
variable {X:Cx}{a b:Expr}{ta tb:TE}{pos:Pos}
theorem yg {r:R2}(hr:IxR X r)(ha:PE X a ta)(hb:PE X b tb)(hs:zjJ b):PE X (.Subscript a b pos) (tOp r ta tb):=by
 intro pins s σ H Q I h
 exact Subscript_ (zlt ha hb I h fun v u s2 x y H2 I2 rx ry q=>hr a b pins s2 σ H2 x y v u Q I2 rx ry q (hs _ _))
def zo1 (K:Frag):R2:=fun x y H Q=>∃p xs i v,x=.ref p/\y=.int i/\zT K H p xs/\atI xs i=some v/\Q v H
def zlD (K:Frag):R2:=fun x y H Q=>∃p xs i v,x=.ref p/\y=.int i/\wK K H p xs/\atI xs i=some v/\Q v H
def zo2:R2:=fun x y H Q=>∃z i c,x=.str z/\y=.int i/\z.length<=sizeLine/\atI z.cps.toList i=some c/\Q (.str ⟨#[c]⟩) H
theorem yS:IxR X (zo1 X.K):=by
 intro value slice pins s σ H x y v u Q I rx ry h hs
 obtain⟨p,xs,i,z,rfl,rfl,hq,he,q⟩:=h
 cases rx
 obtain⟨t,rfl⟩:=ry
 obtain⟨its,r,pl,hz⟩:=I.list hq
 obtain⟨j,h1,h2,h3,h4,h5⟩:=zcC he
 obtain⟨w,ew,rw'⟩:=r.get h2
 have hl:=r.length
 have hn:=U7
 have fin:EP X pins σ Q w s:=⟨z,H,I,rw',q⟩
 by_cases h0:0<=i
 ·have hj:i.toNat=j:=by
   rw[seqIndex_of h0 h5] at h1
   exact zuG h1
  exact item_listR pl.isList h0 (by omega) (by rw[hj];simpa using ew) fin hs
 ·have hj:(i+(its.toArray.size:Int)).toNat=j:=by
   rw[seqIndex_neg (by omega) h4] at h1
   rw[zum,<-hl]
   exact zuG h1
  exact subscriptTail_builtinR (x:=w) pl.isList.typeIs slot_list_getitem.lookup
   (wpAny_getItem_list_neg (Q:=fun r s'=>r=w/\EP X pins σ Q r s') pl.isList (by omega) (by rw[zum]<;>omega) (by omega) (by rw[hj];simpa using ew) ⟨rfl,fin⟩) hs
theorem vh:IxR X (zlD X.K):=by
 intro value slice pins s σ H x y v u Q I rx ry h hs
 obtain⟨p,xs,i,z,rfl,rfl,hq,he,q⟩:=h
 cases rx
 obtain⟨t,rfl⟩:=ry
 obtain⟨its,r,pl,hz⟩:=I.tuple hq
 obtain⟨j,h1,h2,h3,h4,h5⟩:=zcC he
 obtain⟨w,ew,rw'⟩:=r.get h2
 have hl:=r.length
 have hn:=U7
 have fin:EP X pins σ Q w s:=⟨z,H,I,rw',q⟩
 exact subscriptTail_builtinR (x:=w) pl.typeIs slot_tuple_getitem.lookup
  (getItem_tuple (j:=j) (Q:=fun r s'=>r=w/\EP X pins σ Q r s') pl (by omega) (by omega) (by rw[zum,<-hl];exact h1) (by simpa using ew) ⟨rfl,fin⟩) hs
theorem zlE:IxR X zo2:=by
 intro value slice pins s σ H x y v u Q I rx ry h hs
 obtain⟨z,i,c,rfl,rfl,hz,he,q⟩:=h
 obtain⟨t,rfl⟩:=rx
 obtain⟨t',rfl⟩:=ry
 obtain⟨j,h1,h2,h3,h4,h5⟩:=zcC he
 have hl:z.cps.toList.length=z.length:=by simp[Str.length]
 rw[hl] at h1 h4 h5
 have hn:=U7
 exact tail_any (typeIs_str s z t) slot_str_getitem.lookup (getItem_str (c:=c) (by
  have e1:decide (i < -(2^63:Int))=false:=decide_eq_false (by omega)
  have e2:decide (i >= 2^63)=false:=decide_eq_false (by omega)
  rw[e1,e2,Bool.or_false]) (by rw[h1];simpa using h2) ⟨.str ⟨#[c]⟩,H,I.tok _,⟨_,rfl⟩,q⟩) hs
theorem ze4 (its:List Value)(n j:Nat)(u:Value):Obj.mapSeq (·.setIfInBounds j u) { cls:=.type "list", data:=.seq its.toArray n }={ cls:=.type "list", data:=.seq (its.set j u).toArray n }:=by
 simp[Obj.mapSeq]
theorem Inv.lst {pins:List (Addr×Obj)}{σ:St}{H:Hp}{s:Shared}{p:Addr}{xs:List V}(I:Inv X pins σ H s)(h:H p=some (.lst xs)) :
  ∃(its:List Value) (n:Nat),Vals xs its/\s.heap.get? p=some { cls:=.type "list", data:=.seq its.toArray n }/\xs.length<=sizeLine:=by
 obtain⟨z,its,n,r,e⟩:=I.hok p _ h
 exact⟨its,n,r,e,z⟩
theorem Inv.zlF {pins:List (Addr×Obj)}{σ:St}{H:Hp}{s:Shared}{p:Addr}{xs ys:List V}{its its':List Value}{n n':Nat}{f:Obj->Obj}(I:Inv X pins σ H s)(h:H p=some (.lst xs))
  (ho:s.heap.get? p=some { cls:=.type "list", data:=.seq its.toArray n })(hf:f { cls:=.type "list", data:=.seq its.toArray n }={ cls:=.type "list", data:=.seq its'.toArray n' })(r:Vals ys its')(hz:ys.length<=sizeLine)(t:Nat) :
  Inv X pins σ (upd H p (.lst ys)) { s with heap:=s.heap.update p f,toks:=t }:=by
 have e:(s.heap.update p f).get? p=some { cls:=.type "list", data:=.seq its'.toArray n' }:=by
  rw[Heap.get?_update_self f ho (by rw[hf]<;>rfl),hf]
 refine I.write (x:=p) (e:=p) (by rw[h];trivial) (.inl rfl) (fun b u hb q=>(Heap.get?_update_other _ _ (Ne.symm hb)).trans q) ⟨_,e⟩ ?_
 exact⟨hz,its',n',r,e⟩
def zm4:V->V->V->Hp->(Hp->Prop)->Prop:=fun o i v H Q=>∃p xs k j,o=.ref p/\i=.int k/\H p=some (.lst xs)/\ixN xs.length k=some j/\Q (upd H p (.lst (xs.set j v)))
theorem set_list:zmO X zm4:=by
 intro pins s σ H o i v ov iv u Q I ro ri rv h
 obtain⟨p,xs,k,j,rfl,rfl,hp,hj,q⟩:=h
 cases ro
 obtain⟨t,rfl⟩:=ri
 obtain⟨its,n,r,ho,hz⟩:=I.lst hp
 obtain⟨h1,h2,h3,h4⟩:=zgf hj
 have hl:=r.length
 have hn:=U7
 have I':Inv X pins σ (upd H p (.lst (xs.set j v))) { s with heap:=s.heap.update p (Obj.mapSeq (·.setIfInBounds j u)) } :=
  I.zlF hp ho (ze4 its n j u) (r.set rv j) (by rw[List.length_set];exact hz) s.toks
 by_cases h0:0<=k
 ·have hk:k.toNat=j:=by
   rw[seqIndex_of h0 h4] at h1
   exact zuG h1
  exact PySem.W.ki_setAt ho h0 (by omega) (by rw[zum,<-hl];exact h4) (by rw[hk];exact⟨_,I',q⟩)
 ·have hk:(k+(its.toArray.size:Int)).toNat=j:=by
   rw[seqIndex_neg (by omega) h3] at h1
   rw[zum,<-hl]
   exact zuG h1
  exact PySem.W.ki_setBack ho (by omega) (by rw[zum,<-hl];exact h3) (by omega) (by rw[hk];exact⟨_,I',q⟩)
theorem zcD (lo hi:Option Int)(n:Nat):(sliceBounds lo hi none n).1=((HT.Zf n 0 lo:Nat):Int)/\(sliceBounds lo hi none n).2.1=((HT.Zf n n hi:Nat):Int)/\(sliceBounds lo hi none n).2.2=1:=by
 refine⟨?_,?_,rfl⟩
 ·cases lo with
  | none=>simp[sliceBounds,HT.Zf]
  | some i =>
   simp only[sliceBounds,HT.Zf,Option.getD_none,show(1:Int) > 0 by decide,if_true]
   by_cases h:i<0
   ·simp only[h,if_true]<;>omega
   ·simp only[h,if_false]<;>omega
 ·cases hi with
  | none=>simp[sliceBounds,HT.Zf]
  | some i =>
   simp only[sliceBounds,HT.Zf,Option.getD_none,show(1:Int) > 0 by decide,if_true]
   by_cases h:i<0
   ·simp only[h,if_true]<;>omega
   ·simp only[h,if_false]<;>omega
theorem zbl (its:List Value)(lo hi:Option Int):slicePick its.toArray lo hi none=((its.drop (HT.Zf its.length 0 lo)).take (HT.Zf its.length its.length hi-HT.Zf its.length 0 lo)).toArray:=by
 obtain⟨h1,h2,h3⟩:=zcD lo hi its.toArray.size
 unfold slicePick
 rw[h1,h2,h3]
 simp only[sliceRange_one,pick_run,zum]<;>rfl
def zo3 (K:Frag):V->Option Int->Option Int->Hp->VK->Prop:=fun x lo hi H Q=>∃a xs,x=.ref a/\zT K H a xs/\∀p,H p=none->Q (.ref p) (upd H p (.lst (Qa xs lo hi)))
theorem zgg:SlR X (zo3 X.K):=by
 intro pins s σ H x v vl vu lo hi sl Q I rx hs pl pu h
 obtain⟨a,xs,rfl,hx,q⟩:=h
 cases rx
 obtain⟨its,r,ht,hz⟩:=I.list hx
 have hlen:=r.length
 refine⟨"list", _,slot_list_getitem.lookup,ht.isList.typeIs,?_⟩
 refine wpAny_getItem_list_slice ht.isList hs pl pu .none (by simp) ?_ (by rw[zum]<;>omega)
 rw[zbl,<-hlen]
 refine⟨.ref s.heap.objs.size,_,I.laid (t':=s.toks) (o:=.lst (Qa xs lo hi)) (fun b ob q=>zui _ q) (zus _) ?_,rfl,q _ (I.hok.fresh (zus _))⟩
 exact⟨zux (Kl xs lo hi) hz,_,0,(r.drop (HT.Zf xs.length 0 lo)).take (HT.Zf xs.length xs.length hi-HT.Zf xs.length 0 lo),zuw _ rfl⟩
def vP:V->Bool
 | .non=>true
 | .bl _=>true
 | .int _=>true
 | .str _=>true
 | _=>false
def eqV:V->V->Bool
 | .non,.non=>true
 | .bl a,.bl b=>a==b
 | .bl a,.int b=>(if a then 1 else 0)==b
 | .int a,.bl b=>a==(if b then 1 else 0)
 | .int a,.int b=>a==b
 | .str a,.str b=>a==b
 | _,_=>false
theorem zil {A:Around}{s:Shared}{y x:V}{u v:Value}(ry:RelV y u)(rx:RelV x v)(fy:vP y=true)(fx:vP x=true):SeqAt.EqAt A s u v (eqV y x):=by
 cases y with
 | non =>
  cases ry
  cases x with
  | non=>cases rx;exact SeqAt.EqAt.same _
  | bl b=>cases rx;exact SeqAt.EqAt.none_bool b
  | int b=>obtain⟨t,rfl⟩:=rx;exact SeqAt.EqAt.none_int b t
  | str b=>obtain⟨t,rfl⟩:=rx;exact SeqAt.EqAt.none_str b t
  | _=>exact absurd (show false=true from fx) zug
 | bl a =>
  cases ry
  cases x with
  | non=>cases rx;exact SeqAt.EqAt.bool_none a
  | bl b=>cases rx;exact SeqAt.EqAt.bool_bool a b
  | int b=>obtain⟨t,rfl⟩:=rx;exact SeqAt.EqAt.bool_int a b t
  | str b=>obtain⟨t,rfl⟩:=rx;exact SeqAt.EqAt.bool_str a b t
  | _=>exact absurd (show false=true from fx) zug
 | int a =>
  obtain⟨t',rfl⟩:=ry
  cases x with
  | non=>cases rx;exact SeqAt.EqAt.int_none a t'
  | bl b=>cases rx;exact SeqAt.EqAt.int_bool a t' b
  | int b=>obtain⟨t,rfl⟩:=rx;exact SeqAt.EqAt.int_int a t' b t
  | str b=>obtain⟨t,rfl⟩:=rx;exact SeqAt.EqAt.int_str a t' b t
  | _=>exact absurd (show false=true from fx) zug
 | str a =>
  obtain⟨t',rfl⟩:=ry
  cases x with
  | non=>cases rx;exact SeqAt.EqAt.str_none a t'
  | bl b=>cases rx;exact SeqAt.EqAt.str_bool a t' b
  | int b=>obtain⟨t,rfl⟩:=rx;exact SeqAt.EqAt.str_int a t' b t
  | str b=>obtain⟨t,rfl⟩:=rx;exact SeqAt.EqAt.str_str a t' b t
  | _=>exact absurd (show false=true from fx) zug
 | _=>exact absurd (show false=true from fy) zug
def eqU (x:V)(u:Value):Bool:=match u with
 | .none=>eqV .non x
 | .bool b=>eqV (.bl b) x
 | .int i _=>eqV (.int i) x
 | .str z _=>eqV (.str z) x
 | _=>false
theorem zcE {x y:V}{u:Value}(r:RelV y u)(f:vP y=true):eqU x u=eqV y x:=by
 cases y with
 | non=>cases r;rfl
 | bl b=>cases r;rfl
 | int i=>obtain⟨t,rfl⟩:=r;rfl
 | str z=>obtain⟨t,rfl⟩:=r;rfl
 | _=>exact absurd (show false=true from f) zug
theorem QZ {x:V}:∀{xs:List V} {us:List Value},Vals xs us->xs.all vP=true->us.any (eqU x)=xs.any fun y=>eqV y x
 | _,_,.nil,_=>rfl
 | y::xs,u::us,.cons r t,f=>by
  rw[List.all_cons,zuD] at f
  rw[List.any_cons,List.any_cons,zcE r f.1,QZ t f.2]
theorem W7 {A:Around}{s:Shared}{x:V}{v:Value}(rx:RelV x v)(fx:vP x=true):∀{xs:List V} {us:List Value},Vals xs us->xs.all vP=true->∀u∈us,SeqAt.EqAt A s u v (eqU x u)
 | _,_,.nil,_=>fun u hu=>by cases hu
 | y::xs,u::us,.cons r t,f=>fun u' hu=>by
  rw[List.all_cons,zuD] at f
  rcases List.mem_cons.mp hu with rfl | hu
  ·rw[zcE r f.1];exact zil r rx f.1 fx
  ·exact W7 rx fx t f.2 u' hu
def inV (x:V)(xs:List V):Bool:=xs.any fun y=>eqV y x
def rIn (K:Frag)(neg:Bool):R2:=fun x y H Q=>∃p xs,y=.ref p/\(zT K H p xs\/wK K H p xs)/\vP x=true/\xs.all vP=true/\Q (.bl (if neg then !inV x xs else inV x xs)) H
theorem Sv:U0 X (compareOp .In) (rIn X.K false):=by
 intro pins s σ H x y v u Q I rx ry h
 obtain⟨p,xs,rfl,hq,fx,fs,q⟩:=h
 cases ry
 rcases hq with hq | hq
 ·obtain⟨its,r,pl,hz⟩:=I.list hq
  refine SeqAt.in_listAt (eqU x) pl.isList (fun w hw=>W7 rx fx r fs w (by simpa using hw)) ⟨.bl _,H,I,rfl,?_⟩
  rw[show its.toArray.any (eqU x)=its.any (eqU x) by simp,QZ r fs]
  exact q
 ·obtain⟨its,r,pl,hz⟩:=I.tuple hq
  refine SeqAt.in_tupleAt (eqU x) pl (fun w hw=>W7 rx fx r fs w (by simpa using hw)) ⟨.bl _,H,I,rfl,?_⟩
  rw[show its.toArray.any (eqU x)=its.any (eqU x) by simp,QZ r fs]
  exact q
theorem zcF:U0 X (compareOp .NotIn) (rIn X.K true):=by
 intro pins s σ H x y v u Q I rx ry h
 obtain⟨p,xs,rfl,hq,fx,fs,q⟩:=h
 cases ry
 rcases hq with hq | hq
 ·obtain⟨its,r,pl,hz⟩:=I.list hq
  refine SeqAt.notIn_listAt (eqU x) pl.isList (fun w hw=>W7 rx fx r fs w (by simpa using hw)) ⟨.bl _,H,I,rfl,?_⟩
  rw[show its.toArray.any (eqU x)=its.any (eqU x) by simp,QZ r fs]
  exact q
 ·obtain⟨its,r,pl,hz⟩:=I.tuple hq
  refine SeqAt.notIn_tupleAt (eqU x) pl (fun w hw=>W7 rx fx r fs w (by simpa using hw)) ⟨.bl _,H,I,rfl,?_⟩
  rw[show its.toArray.any (eqU x)=its.any (eqU x) by simp,QZ r fs]
  exact q
theorem zG:Wc X (.builtin "len") (fun xs H Q=>∃p ys,xs=[.ref p]/\(zT X.K H p ys\/wK X.K H p ys)/\Q (.int ys.length) H):=by
 intro pins s σ H xs us Q I r h
 obtain⟨p,ys,rfl,hq,q⟩:=h
 obtain⟨u,rfl,rx⟩:=vals1 r
 cases rx
 have hn:=U7
 rcases hq with hq | hq
 ·obtain⟨its,r',pl,hz⟩:=I.list hq
  have hlen:=r'.length
  exact Calls.call_len_list pl.isList (by simp only[zum]<;>omega) ⟨.int ys.length,H,I.tok _,⟨s.toks+1,by rw[zum,hlen]⟩,q⟩
 ·obtain⟨its,r',pl,hz⟩:=I.tuple hq
  have hlen:=r'.length
  exact len_tuple pl (by simp only[zum]<;>omega) ⟨.int ys.length,H,I.tok _,⟨s.toks+1,by rw[zum,hlen]⟩,q⟩
theorem Q5:Wc X (.type "list") (fun xs H Q=>∃p ys,xs=[.ref p]/\(zT X.K H p ys\/wK X.K H p ys)/\∀l,H l=none->Q (.ref l) (upd H l (.lst ys))):=by
 intro pins s σ H xs us Q I r h
 obtain⟨p,ys,rfl,hq,q⟩:=h
 obtain⟨u,rfl,rx⟩:=vals1 r
 cases rx
 have fin:∀(its:List Value),Vals ys its->ys.length<=sizeLine->∀(h':Heap) (c':Nat),(∀b o',s.heap.get? b=some o'->h'.get? b=some o') ->
   h'.get? s.heap.objs.size=some { cls:=.type "list", dict:=none,data:=.seq its.toArray c',slots:=#[] }->EP X pins σ Q (.ref s.heap.objs.size) { s with heap:=h' }:=fun its r' hz h' c' kp e =>
  ⟨.ref s.heap.objs.size,_,I.laid (t':=s.toks) kp (zus _) (show wL X.prog X.w _ h' _ (.lst ys) from ⟨hz,its,c',r',e⟩),rfl,q _ (I.hok.fresh (zus _))⟩
 rcases hq with hq | hq
 ·obtain⟨its,r',pl,hz⟩:=I.list hq
  have hlen:=r'.length
  obtain⟨o,ho,hc,n,hd⟩:=pl.isList
  exact call_list_seq p (.inl rfl) ho hc hd (fun h' c' kp e=>fin its r' hz h' c' kp e) (by simp only[zum]<;>omega)
 ·obtain⟨its,r',pl,hz⟩:=I.tuple hq
  have hlen:=r'.length
  obtain⟨o,ho,hc,n,hd⟩:=pl
  exact call_list_seq p (.inr rfl) ho hc hd (fun h' c' kp e=>fin its r' hz h' c' kp e) (by simp only[zum]<;>omega)
def tyV (K:Frag)(T:String)(x:V)(H:Hp):Prop:=match x with
 | .str _=>T="str"
 | .int _=>T="int"
 | .ref p=>(T="list" /\ ∃xs,zT K H p xs)\/(T="tuple" /\ ∃o,K.lookup p=some o/\o.cls=.type "tuple" /\ o.dict=none) \/
   (T="dict" /\ ((∃kvs,H p=some (.dK kvs))\/∃kvs,H p=some (.dT kvs)))\/(T="set" /\ ∃S n,H p=some (.set S n))
 | _=>False
theorem ze5 {pins:List (Addr×Obj)}{σ:St}{H:Hp}{s:Shared}{T:String}{x:V}{v:Value}(I:Inv X pins σ H s)(r:RelV x v)(ty:tyV X.K T x H) :
  s.TypeIs v T/\∀a,v=.ref a->∃ob,s.heap.get? a=some ob/\ob.dict=none:=by
 cases x with
 | str z =>
  obtain⟨t,rfl⟩:=r
  cases (show T="str" from ty)
  exact⟨typeIs_str s z t,fun _ e=>nomatch e⟩
 | int i =>
  obtain⟨t,rfl⟩:=r
  cases (show T="int" from ty)
  exact⟨typeIs_int s i t,fun _ e=>nomatch e⟩
 | ref p =>
  cases r
  rcases ty with ⟨rfl,xs,hq⟩ | ⟨rfl,o,hk,hc,hd⟩ | ⟨rfl,hk⟩ | ⟨rfl,S,n,hk⟩
  ·obtain⟨its,_,pl,_⟩:=I.list hq
   refine⟨pl.isList.typeIs,fun a e=>?_⟩
   cases e
   obtain⟨o,n,e,c,hd,_⟩:=pl
   exact⟨o,e,hd⟩
  ·refine⟨⟨o,I.NK p o hk,hc⟩,fun a e=>?_⟩
   cases e
   exact⟨o,I.NK _ o hk,hd⟩
  ·have z:∃o,s.heap.get? p=some o/\o.ExactDict:=by
    rcases hk with ⟨kvs,hk⟩ | ⟨kvs,hk⟩
    ·obtain⟨_,_,_,_,o,_,_,e,ex,_⟩:=I.hok p _ hk
     exact⟨o,e,ex⟩
    ·obtain⟨_,_,_,_,o,_,_,e,ex,_⟩:=I.hok p _ hk
     exact⟨o,e,ex⟩
   obtain⟨o,e,ex⟩:=z
   refine⟨⟨o,e,ex.1⟩,fun a e2=>?_⟩
   cases e2
   exact⟨o,e,ex.2.1⟩
  ·obtain⟨o,_,_,_,e,ex,_⟩:=I.hok p _ hk
   refine⟨⟨o,e,ex.1⟩,fun a e2=>?_⟩
   cases e2
   exact⟨o,e,ex.2.1⟩
 | _=>exact False.elim ty
def zo6 (K:Frag)(T:String)(r:V->List V->Hp->VK->Prop)(to:TE):TE:=fun σ H Q=>to σ H fun x H1=>tyV K T x H1/\r x [] H1 Q
def tBM (K:Frag)(T:String)(r:V->List V->Hp->VK->Prop)(to:TE)(t:TA):TE:=fun σ H Q=>to σ H fun x H1=>tyV K T x H1/\t σ H1 fun xs H2=>r x xs H2 Q
variable {o e:Expr}{es:List Expr}{to:TE}{t:TA}{name:Str}{apos cpos:Pos}{T id:String}{r:V->List V->Hp->VK->Prop}
theorem zlG (pa:PlainAttrs T)(slot:Slot T name id)(hty:typeOf (.builtin id)=pure (.type "method_descriptor"))(hm:MtR X id r)(ho:PE X o to)
  (hbase:attributeBase o name X.env (eval o X.env)=eval o X.env:=by rfl)(hline:(apos.endLine==cpos.line)=true:=by rfl):PE X (.Call (.Attribute o name apos) [] [] cpos) (zo6 X.K T r to):=by
 intro pins s σ H Q I h
 refine wpAny_Call_method0_late hbase hline (wM (ho pins s σ H _ I h) fun v s1 ⟨x,H1,I1,r1,ty,q1⟩=>?_)
 obtain⟨h1,h2⟩:=ze5 I1 r1 ty
 exact⟨T,id,pa,slot,hty,h1,h2,Calls.callWith_builtin rfl (PySem.evalArgs_none (hm pins s1 σ H1 x [] v [] Q I1 r1 .nil q1))⟩
theorem Zh (pa:PlainAttrs T)(slot:Slot T name id)(hty:typeOf (.builtin id)=pure (.type "method_descriptor"))(hm:MtR X id r)(ho:PE X o to)(ha:PA X (e::es) t)
  (hbase:attributeBase o name X.env (eval o X.env)=eval o X.env:=by rfl)
  (hfew:((backTo cpos (starEach (e::es) X.env)).all (fun x=>!x.1)&&(backToKw cpos (keywordEach [] X.env)).all (fun x=>x.1.isSome)
   && decide ((e::es).length+([]:List Keyword).length+(if ([]:List Keyword).isEmpty then 0 else 1)<30))=true:=by rfl)
  (hline:(apos.endLine==cpos.line)=true:=by rfl)(hs:starEach (e::es) X.env=(false,eval e X.env)::starEach es X.env:=by rfl)(hplain:(backTo cpos (starEach es X.env)).any (·.1)=false:=by rfl) :
  PE X (.Call (.Attribute o name apos) (e::es) [] cpos) (tBM X.K T r to t):=by
 intro pins s σ H Q I h
 refine wpAny_Call_method_late hbase hfew hline rfl (wM (ho pins s σ H _ I h) fun v s1 ⟨x,H1,I1,r1,ty,q1⟩=>?_)
 obtain⟨h1,h2⟩:=ze5 I1 r1 ty
 refine⟨T,id,pa,slot,hty,h1,h2,?_⟩
 have hA:=ha cpos pins s1 σ H1 _ I1 q1
 rw[hs] at hA ⊢
 refine Calls.callWith_builtin (by show(false||(backTo cpos (starEach es X.env)).any (·.1))=false;rw[hplain]<;>rfl) (Calls.evalArgs_plain ?_)
 exact wM hA fun us s2 ⟨vs,H2,I2,r2,q2⟩=>hm pins s2 σ H2 x vs v us Q I2 r1 r2 q2
end
def MtM (X:Cx)(id:String)(r:V->List V->Hp->VK->Prop):Prop :=
 ∀(pins:List (Addr×Obj)) (s:Shared) (σ:St) (H:Hp) (x:V) (xs:List V) (v:Value) (us:List Value) (Q:VK),Inv X pins σ H s->RelV x v->Vals xs us->r x xs H Q ->
  wpAny (model X.prog X.w) X.A (call (.builtin id) (v::us)) (EP X pins σ Q) X.xe s
theorem Vals.one:∀{x:V} {us:List Value},Vals [x] us->∃u,us=[u]/\RelV x u
 | _,_,.cons r .nil=>⟨_,rfl,r⟩
theorem Vals.two:∀{x y:V} {us:List Value},Vals [x,y] us->∃u v,us=[u,v]/\RelV x u/\RelV y v
 | _,_,_,.cons r (.cons q .nil)=>⟨_,_,rfl,r,q⟩
theorem Vals.zero:∀{us:List Value},Vals [] us->us=[]
 | _,.nil=>rfl
theorem Vals.dropLast {xs:List V}{us:List Value}(h:Vals xs us):Vals xs.dropLast us.dropLast:=by
 induction h with
 | nil=>exact .nil
 | cons r t ih =>
  cases t with
  | nil=>exact .nil
  | cons q t'=>exact .cons r ih
theorem ze6 {α:Type}(l:List α):l.eraseIdx (l.length-1)=l.dropLast:=by
 induction l with
 | nil=>rfl
 | cons a r ih =>
  cases r with
  | nil=>rfl
  | cons b r =>
   have e:(a::b::r).length-1=((b::r).length-1)+1:=by
    have h1:(a::b::r).length=r.length+2:=rfl
    have h2:(b::r).length=r.length+1:=rfl
    omega
   rw[e,List.eraseIdx_cons_succ,ih]
   all_goals rfl
section
variable {X:Cx}{pins:List (Addr×Obj)}{σ:St}{H:Hp}{s:Shared}{l b:Addr}{xs ys zs:List V}
theorem Inv.zim {its its':List Value}{n:Nat}{f:Array Value->Array Value}{t':Nat}(I:Inv X pins σ H s)(hH:H l=some (.lst xs))
  (e:s.heap.get? l=some { cls:=.type "list", data:=.seq its.toArray n })(hf:f its.toArray=its'.toArray)(hv:Vals ys its')(hz:ys.length<=sizeLine) :
  Inv X pins σ (upd H l (.lst ys)) { s with heap:=s.heap.update l (Obj.mapSeq f),toks:=t' }:=by
 have q:=PySem.IsL.update e f
 rw[hf] at q
 refine I.write (x:=l) (e:=l) (by rw[hH];exact trivial) (.inl rfl) (fun b' u hb hu=>(Heap.get?_update_other s.heap (Obj.mapSeq f) (Ne.symm hb)).trans hu) ⟨_,q⟩ ?_
 exact⟨hz,its',_,hv,q⟩
theorem Inv.fresh (I:Inv X pins σ H s):H s.heap.objs.size=none:=I.hok.fresh (zus _)
theorem Inv.zg4 (I:Inv X pins σ H s)(hH:H l=some (.lst xs)):xs.length<=sizeLine/\∃(its:List Value) (n:Nat),Vals xs its/\xs.length=its.length/\s.heap.get? l=some { cls:=.type "list", data:=.seq its.toArray n }:=by
 obtain⟨z,its,n,r,e⟩:=I.hok l _ hH
 exact⟨z,its,n,r,r.length,e⟩
theorem zdB {n:Nat}(h:n<=sizeLine):Builtin.List.listTooLong n=false:=by
 unfold Builtin.List.listTooLong
 exact decide_eq_false (by omega)
end
section
variable {X:Cx}
def zjK:V->List V->Hp->VK->Prop:=fun x vs H Q=>∃l xs y,x=.ref l/\vs=[y]/\H l=some (.lst xs)/\xs.length<sizeLine/\Q .non (upd H l (.lst (xs++[y])))
theorem vR:MtM X "list.append" zjK:=by
 intro pins s σ H x vs v us Q I rx rv h
 obtain⟨l,xs,y,rfl,rfl,hH,hz,q⟩:=h
 cases rx
 obtain⟨u,rfl,ru⟩:=rv.one
 obtain⟨z,its,n,r,hl,e⟩:=I.zg4 hH
 refine call_meets F.slot_list_append ⟨_,e,rfl⟩ F.entry_list_append (F.args_list_append_2 _ _) (PySem.list_append l its.toArray n u (by rw[zum];omega)) ⟨e,?_⟩
 refine⟨.non,_,I.zim (its':=its++[u]) hH e (by simp) (r.append (.cons ru .nil)) ?_,rfl,q⟩
 rw[zuk,zuJ]
 omega
def zjL:V->List V->Hp->VK->Prop:=fun x vs H Q=>∃l b xs zs,x=.ref l/\vs=[.ref b]/\H l=some (.lst xs)/\H b=some (.lst zs)/\xs.length+zs.length<=sizeLine/\Q .non (upd H l (.lst (xs++zs)))
theorem zbT:MtM X "list.extend" zjL:=by
 intro pins s σ H x vs v us Q I rx rv h
 obtain⟨l,b,xs,zs,rfl,rfl,hH,hB,hz,q⟩:=h
 cases rx
 obtain⟨u,rfl,ru⟩:=rv.one
 cases ru
 obtain⟨z,its,n,r,hl,e⟩:=I.zg4 hH
 obtain⟨z2,its2,n2,r2,hl2,e2⟩:=I.zg4 hB
 have hsz:its.toArray.size+its2.toArray.size<=sizeLine:=by rw[zum,zum];omega
 have zin:¬(!its.toArray.isEmpty&&Builtin.List.listTooLong (its.toArray.size+its2.toArray.size))=true:=by
  rw[zdB hsz,Bool.and_false]
  exact zug
 refine call_meets F.slot_list_extend ⟨_,e,rfl⟩ F.entry_list_extend (F.args_list_extend_2 _ _)
  (AutoSeq1.list_extend_list_list_0 l its.toArray n b its2.toArray n2 zin (by rw[zum];omega) (by omega)) ⟨e,e2,?_⟩
 refine⟨.non,_,I.zim (its':=its++its2) hH e (by simp) (r.append r2) ?_,rfl,q⟩
 rw[zuk]
 omega
def zo7:V->List V->Hp->VK->Prop:=fun x vs H Q=>∃l xs y,x=.ref l/\vs=[]/\H l=some (.lst xs)/\xs[xs.length-1]?=some y/\Q y (upd H l (.lst xs.dropLast))
theorem zlH:MtM X "list.pop" zo7:=by
 intro pins s σ H x vs v us Q I rx rv h
 obtain⟨l,xs,y,rfl,rfl,hH,hy,q⟩:=h
 cases rx
 have hus:=rv.zero
 subst hus
 obtain⟨z,its,n,r,hl,e⟩:=I.zg4 hH
 obtain⟨u,hu,ru⟩:=r.get hy
 have hy':its.toArray[its.toArray.size-1]?=some u:=by
  show its.toArray[its.length-1]?=some u
  rw[<-Array.getElem?_toList,<-hl]
  exact hu
 refine call_meets F.slot_list_pop ⟨_,e,rfl⟩ F.entry_list_pop (F.args_list_pop_1 _) (MeetsSeq.list_pop_last l its.toArray n u hy' (by rw[zum];omega)) ⟨e,?_⟩
 refine⟨y,_,I.zim (its':=its.dropLast) hH e ?_ r.dropLast ?_,ru,q⟩
 ·show its.toArray.eraseIdxIfInBounds (its.toArray.size-1)=its.dropLast.toArray
  rw[zum,List.eraseIdxIfInBounds_toArray,ze6]
 ·rw[List.length_dropLast]
  omega
end
end L2
namespace Att
open PySem PySem.W PySem.Calls PyProof.Rows
theorem Jc {P:Params}{h:Heap}:∀(ns:List Int) (vs:List Value),WellAll P h vs (ns.map WData.int)->IntsAre vs ns:=by
 intro ns
 induction ns with
 | nil =>
  intro vs w
  rw[List.map_nil] at w
  cases w
  exact .nil
 | cons n ns ih =>
  intro vs w
  rw[zuA] at w
  cases w with
  | cons a b =>
   cases a
   exact .cons _ _ (ih _ b)
theorem zg5 {l:OpenLaw}{n:Nat}(hn:l.most=some n){P:Params}{h:Heap}{args:List WData}{vals:List Value}
  (hpre:l.row.toRowW.claim.pre args=true)(hwl:WellAll P h vals args) :
  ∃a vs ns,vals=[Value.ref a]/\args=[WData.list (ns.map WData.int)]/\h.get? a=some { cls:=.type "list", data:=.seq vs.toArray }/\IntsAre vs ns/\ns.length<=n:=by
 have hsh:WShape.hasAll [] args [.list .int]=true:=(pre_splitW hpre).1
 have hc:l.pre.holds [] { args:=args }=true:=(pre_splitW hpre).2
 obtain⟨d,r,rfl,h1,h2⟩:=hasAllW_cons hsh
 obtain rfl:=hasAllW_nil h2
 obtain⟨xs,rfl,h3⟩:=hasW_list h1
 obtain⟨ns,rfl⟩:=items_int h3
 have hlen:ns.length<=n:=by
  unfold OpenLaw.pre at hc
  have h4:(WTm.not (.lt (.lit (.int (n:Int))) (.len (.arg 0)))).holds [] { args:=[.list (ns.map .int)] }=true:=by
   have h4:=(holds_andW hc).1
   rw[hn] at h4
   exact h4
  have h5:=condW_of h4 (w_not (w_lt w_lit (w_len_list (w_arg rfl))))
  rw[zuc] at h5
  refine Nat.le_of_not_lt fun q=>?_
  have q':(n:Int)<((ns.length:Nat):Int):=by omega
  first
   | (rw[decide_eq_true q'] at h5;exact absurd h5 (by decide))
   | (simp at h5;omega)
 cases hwl with
 | cons w1 w2 =>
  cases w2
  cases w1 with
  | list ho hall=>exact⟨_,_,ns,rfl,rfl,ho,Jc ns _ hall,hlen⟩
theorem zg6 (l:OpenLaw)(args:List WData):l.row.toRowW.claim.post args (.bool true) args=true :=
 postW_of (r:=l.row.toRowW) (X:=(true==true))
  (show WShape.has [] (.bool true) .bool=true by first | rfl | decide | simp[WShape.has,WShape.arms,WShape.armsAll])
  (show(WTm.eq .res (.lit (.bool true))).value [] { args:=args,res:=some (.bool true),after:=args }=some (.bool (true==true)) from w_eq_bool (w_res rfl) w_lit) rfl
theorem zdC {l:OpenLaw}{n:Nat}{q:Program}{loose:List Str}{XP:(Str->Option Value)->Heap->Prop}{YP:World->Heap->Prop}{d:DefRec}
  (hn:l.most=some n)(hdf:d.params.defaults=[])
  (call:∀(w:World) (s₀ s₁:Shared) (mg mb:Str->Option Value) (fa:Addr) (o:Obj) (pm cd doc:Value) (a:Addr) (vs:List Value) (ns:List Int),
   Ground q loose [] XP w s₀ mg mb s₁.heap->YP w s₁.heap ->
   s₁.heap.get? fa=some o->o.data=.func (docDef d.name d.params d.body d.scope pm cd doc)->s₁.heap.CodeRec cd d.name->mg d.name=some (.ref fa) ->
   s₁.heap.get? a=some { cls:=.type "list", data:=.seq vs.toArray }->IntsAre vs ns->ns.length<=n->s₁.gens=#[] ->
   codeAny (model l.prog w) callerA (.call (.ref fa) ⟨[.ref a],[]⟩) (fun r s'=>r=.ok (.ret (.bool true))/\OldK s₁.heap s'.heap/\s'.os=s₁.os/\AllBare s'.gens) s₁) :
  WalkO q loose XP YP l.row.toRowW d [] (fun f vs=>PySem.call f vs):=by
 intro w s₀ s₁ mg mb G Y fa o pm cd doc dV kV ho hd hcd hD hmg hg args vals as hpre hlay hrd hwl hlo
 obtain rfl:dV=.none:=Dflts.none hD hdf
 obtain rfl:kV=.none:=Dflts.noKw hD
 obtain⟨a,vs,ns,rfl,rfl,hobj,hints,hlen⟩:=zg5 hn hpre hwl
 refine enter_call (codeAny_mono (call w s₀ s₁ mg mb fa o pm cd doc a vs ns G Y ho (fd_plain hd) hcd hmg hobj hints hlen hg) fun r s' hq=>?_)
 obtain⟨rfl,h2,h3,h4⟩:=hq
 exact⟨.inl ⟨.bool true,.bool true,[],rfl,fun _=>rfl,.bool true,zg6 l _,fun _=>⟨List.Pairwise.nil,fun _ hm=>(nomatch hm)⟩⟩,h2,h3,h4⟩
end Att
namespace L2
open PySem PySem.Spec PyProof.Rows
theorem N5:∀{vs:List Value} {ns:List Int},IntsAre vs ns->Vals (ns.map V.int) vs
 | _,_,.nil=>.nil
 | _,_,.cons n t h=>.cons ⟨t,rfl⟩ (N5 h)
def Only (H:Hp):Prop:=∀b,H b=none\/∃o xs,H b=some (.frz o (.lst xs))
theorem zio {P:Program}{w:World}{K:Frag}{mg mb:Str->Option Value}{CX:CXT}{k:Nat}{fa a:Addr}{fd:FuncData}{x:Str}{sp:Sp}{s₁:Shared}{vs:List Value}{ns:List Int}
  (KX:K.In s₁.heap)(hns:s₁.heap.Ns mainGlobals mg)(hb:s₁.heap.Ns builtinsNs mb)(hbb:∀x:Str,x ≠ "__name__" -> mb x=bootBuiltins x)(hlim:s₁.heap.NoLimit)(hg:s₁.gens=#[])
  (ha:s₁.heap.get? a=some { cls:=.type "list", data:=.seq vs.toArray })(hi:IntsAre vs ns)(hl:ns.length<=sizeLine)(hr:ZJ k callerA)
  (F:∀base:Heap,K.In base->base.Ns mainGlobals mg->zA P w K mg base CX k fa fd [x] sp)(hbind:∀(s:Shared) (u:Value),BindsTo s fd ⟨[u],[]⟩ [(x,u)])
  (hsp:∀H:Hp,Only H->zT K H a (ns.map V.int)->sp [.ref a] H (fun v _=>v=.bl true) fun _ _ _=>False)
  (hCX:∀H e s',CX [] H s₁ (fun _ _ _=>False) e s'->False) :
  codeAny (model P w) callerA (.call (.ref fa) ⟨[.ref a],[]⟩) (fun r s'=>r=.ok (.ret (.bool true))/\OldK s₁.heap s'.heap/\s'.os=s₁.os/\AllBare s'.gens) s₁:=by
 have rv:=N5 hi
 have lenV:=hi.length
 have core:∀H:Hp,Only H->zT K H a (ns.map V.int)->Rw P w H s₁.heap->(∀b,H b≠none->b=a)->(H a≠none->K.lookup a=none) ->
   codeAny (model P w) callerA (.call (.ref fa) ⟨[.ref a],[]⟩) (fun r s'=>r=.ok (.ret (.bool true))/\OldK s₁.heap s'.heap/\s'.os=s₁.os/\AllBare s'.gens) s₁:=by
  intro H hO hS hok hA hK
  have zgh:∀{b:Addr} {o:Obj},s₁.heap.get? b=some o->H b=none->(zct s₁.heap H).get? b=some o:=fun e n=>zh6 e n
  have noA:∀{b:Addr} {o:Obj} {es:Array DictEntry} {ep:Nat},s₁.heap.get? b=some o->o.data=.dict es ep->H b=none:=fun {b o es ep} e d=>by
   cases q:H b with
   | none=>rfl
   | some u =>
    have e':b=a:=hA b (by rw[q];simp)
    subst e'
    rw[ha] at e;cases e
    have d':Data.seq vs.toArray _=Data.dict es ep:=d
    cases d'
  have nsK:∀{b:Addr} {m:Str->Option Value},s₁.heap.Ns b m->(zct s₁.heap H).Ns b m:=fun {b m} ⟨o,es,ep,e,d,r⟩=>⟨o,es,ep,zgh e (noA e d),d,r⟩
  have hKb:K.In (zct s₁.heap H):=fun b o e=>zgh (KX b o e) (by
   cases q:H b with
   | none=>rfl
   | some u =>
    have e':b=a:=hA b (by rw[q];simp)
    subst e'
    rw[hK (by rw[q];simp)] at e;cases e)
  have hM:Mod K mg (zct s₁.heap H):=⟨hKb,nsK hns,⟨mb,nsK hb,hbb⟩,let ⟨mc,h1,h2⟩:=hlim;⟨mc,nsK h1,h2⟩⟩
  have e0:ze0 P w K mg (zct s₁.heap H) callerA [] s₁ H:=⟨rfl,hM,fun b o e=>zjx e,Nat.le_of_eq (zgQ _ _),trivial,fun b hb=>absurd (show b∈([]:List Addr) from hb) (by simp),hok,.of_eq hg⟩
  refine codeAny_mono ((F _ hKb (nsK hns)).run callerA [] s₁ H ⟨[.ref a],[]⟩ [.ref a] [.ref a] _ _ hr e0 (hbind s₁ (.ref a)) (.cons rfl .nil) (hsp H hO hS)) fun r s' h=>?_
  cases r with
  | error e=>exact(hCX H e s' h).elim
  | ok fl =>
   cases fl with
   | next=>exact False.elim h
   | brk=>exact False.elim h
   | cont=>exact False.elim h
   | ret u =>
    obtain⟨v,H',os,bare,un,hok',r',q⟩:=h
    have q':v=.bl true:=q
    subst q'
    obtain rfl:u=Value.bool true:=r'
    refine⟨rfl,OldK.of_keep fun b o e=>?_,os,bare⟩
    cases q:H b with
    | none=>exact un.keep b o e q (by intro z;exact absurd (show b∈([]:List Addr) from z) (by simp)) (by simp)
    | some u =>
     rcases hO b with z | ⟨ob,xs,z⟩
     ·rw[q] at z;cases z
     ·have z2:=un.zbh b ob _ z
      obtain⟨e1,_⟩:=hok b _ z
      obtain⟨e2,_⟩:=hok' b _ z2
      rw[e] at e1;cases e1
      exact e2
 cases hk:K.lookup a with
 | some o =>
  have e:=KX a o hk
  rw[ha] at e
  cases e
  refine core (fun _=>none) (fun _=>.inl rfl) (.inr ⟨_,vs.toArray,_,hk,rfl,rfl,rfl,by rw[zum,lenV];exact hl,by simpa using rv⟩) (fun b u z=>by have z':(none:Option HO)=some u:=z;cases z') (fun b z=>absurd rfl z) fun z=>absurd rfl z
 | none =>
  refine core (fun b=>if b=a then some (.frz { cls:=.type "list", data:=.seq vs.toArray } (.lst (ns.map V.int))) else none) (fun b=>?_) (.inl (.inr ⟨{ cls:=.type "list", data:=.seq vs.toArray },if_pos rfl⟩)) (fun b u z=>?_) (fun b z=>?_) fun _=>hk
  ·by_cases hb:b=a
   ·exact .inr ⟨_,_,if_pos hb⟩
   ·exact .inl (if_neg hb)
  ·by_cases hb:b=a
   ·have z':=(if_pos hb).symm.trans z
    cases z'
    subst hb
    exact⟨ha,by rw[zuc];exact hl,vs,_,rv,ha⟩
   ·have z':=(if_neg hb).symm.trans z
    cases z'
  ·by_cases hb:b=a
   ·exact hb
   ·exact absurd (if_neg hb) z
abbrev KOf {K:Frag}{h:Heap}(_:K.In h):Frag:=K
theorem zjM {l:PySem.W.OpenLaw}{n k:Nat}{q:Program}{loose:List Str}{XP:(Str->Option Value)->Heap->Prop}{YP:World->Heap->Prop}{d:DefRec}{K:Params->Frag}{CX:World->CXT}{sp:World->Sp}{x:Str}
  (hn:l.most=some n)(hn2:n<=sizeLine)(hdf:d.params.defaults=[])(hr:ZJ k callerA)
  (hY:∀(w:World) (h:Heap),YP w h->(K w.params).In h)
  (F:∀(w:World) (mg:Str->Option Value) (fa:Addr) (h:Heap),(K w.params).In h->h.Ns mainGlobals mg->mg d.name=some (.ref fa) ->
   ∃fd:FuncData,(∀(s:Shared) (u:Value),BindsTo s fd ⟨[u],[]⟩ [(x,u)]) /\
    ∀base:Heap,(K w.params).In base->base.Ns mainGlobals mg->zA l.prog w (K w.params) mg base (CX w) k fa fd [x] (sp w))
  (hsp:∀(w:World) (H:Hp) (a:Addr) (ns:List Int),ns.length<=n->Only H->zT (K w.params) H a (ns.map V.int)->sp w [.ref a] H (fun v _=>v=.bl true) fun _ _ _=>False)
  (hCX:∀(w:World) (H:Hp) (s:Shared) (e:Value) (s':Shared),CX w [] H s (fun _ _ _=>False) e s'->False) :
  PySem.W.WalkO q loose XP YP l.row.toRowW d [] (fun f vs=>PySem.call f vs):=by
 refine Att.zdC hn hdf fun w s₀ s₁ mg mb fa o pm cd doc a vs ns G Y ho hd hcd hmg hobj hints hlen hg=>?_
 have KX:=hY w _ Y
 obtain⟨fd,hb,hF⟩:=F w mg fa _ KX G.T.g hmg
 exact zio KX G.T.g G.T.b G.T.builtins G.T.nolimit hg hobj hints (zux hlen hn2) hr hF hb (fun H hO hS=>hsp w H a ns hlen hO hS) fun H e s'=>hCX w H s₁ e s'
theorem ziq {l:PySem.W.OpenLaw}{n k:Nat}{q:Program}{loose:List Str}{XP:(Str->Option Value)->Heap->Prop}{YP:World->Heap->Prop}{d:DefRec}{K:Params->Frag}{CX:CXT}{sp:Frag->Sp}{x:Str}
  (hn:l.most=some n)(hn2:n<=sizeLine)(hdf:d.params.defaults=[])(hr:ZJ k callerA)
  (hY:∀(w:World) (h:Heap),YP w h->(K w.params).In h)
  (F:∀(w:World) (mg:Str->Option Value) (fa:Addr) (h:Heap),(K w.params).In h->h.Ns mainGlobals mg->mg d.name=some (.ref fa) ->
   ∃fd:FuncData,(∀(s:Shared) (u:Value),BindsTo s fd ⟨[u],[]⟩ [(x,u)]) /\
    ∀base:Heap,(K w.params).In base->base.Ns mainGlobals mg->zA l.prog w (K w.params) mg base CX k fa fd [x] (sp (K w.params)))
  (hsp:∀(K:Frag) (H:Hp) (a:Addr) (ns:List Int),ns.length<=n->Only H->zT K H a (ns.map V.int)->sp K [.ref a] H (fun v _=>v=.bl true) fun _ _ _=>False)
  (hCX:∀(H:Hp) (s:Shared) (e:Value) (s':Shared),CX [] H s (fun _ _ _=>False) e s'->False) :
  PySem.W.WalkO q loose XP YP l.row.toRowW d [] (fun f vs=>PySem.call f vs) :=
 zjM (K:=K) (CX:=fun _=>CX) (sp:=fun w=>sp (K w.params)) hn hn2 hdf hr hY F (fun w H a ns h1 h2 h3=>hsp (K w.params) H a ns h1 h2 h3) fun _ H s e s'=>hCX H s e s'
def inClass (s:Stmt)(j:Nat):Stmt:=match s with
 | .ClassDef _ _ _ body _ _ _ _ _ _ _=>body.getD j (.Pass ⟨0,0,0,0⟩)
 | _=>.Pass ⟨0,0,0,0⟩
def Jm (s:Stmt):Arguments:=match s with
 | .FunctionDef _ a _ _ _ _ _ _ _ _=>a
 | _=>{ posonlyargs:=[],args:=[],vararg:=none,kwonlyargs:=[],kw_defaults:=[],kwarg:=none,defaults:=[] }
def Wd (s:Stmt):List Stmt:=match s with
 | .FunctionDef _ _ b _ _ _ _ _ _ _=>b
 | _=>[]
def zp (s:Stmt):Scope:=match s with
 | .FunctionDef _ _ _ _ _ _ sc _ _ _=>sc
 | _=>{ kind:=.function,names:=[],isGenerator:=false,isCoroutine:=false }
abbrev zX:CXT:=fun _ _ _ _ _ _=>False
abbrev E0:XK:=fun _ _ _=>False
theorem zF {X:Cx}:Passes zX X E0:=fun _ _ _ _ _ _ _ h=>h.elim
structure xg (K:Frag)(x qual:Str)(st:Stmt)(f:Addr)(fd:FuncData):Prop where
 ex:∃(oc:Value) (od:Option Addr) (kV doc pm:Value) (an:Option Addr) (cdv ct:Value) (osl:Array (Option Value)),
  fd=PySem.W.fnOf x qual (Jm st) (Wd st) (zp st) .none kV doc pm an cdv ct/\K.lookup f=some ⟨oc,od,.func fd,osl⟩/\PySem.W.codeIn K cdv qual=true
 kp:PySem.W.keepIn K (.ref f)=true
section
variable {P:Program}{w:World}{K:Frag}{mg:Str->Option Value}{base:Heap}
theorem xg.ok {x qual:Str}{st:Stmt}{f:Addr}{fd:FuncData}{N ps:List Str}{k:Nat}{sp:Sp}(F:xg K x qual st f fd)(S:zK N ps (zp st))(len:∀vs H Q E,sp vs H Q E->vs.length=ps.length)
  (hbody:∀(cdv:Value) (A:Around) (outer:List Env) (s:Shared) (H:Hp) (vs:List V) (Q:VK) (E:XK),ZJ k (A.deeper (envOfC qual (zp st) s.heap.objs.size f cdv))->sp vs H Q E ->
   ∃t,PSs (zg2 zX P w K mg base N qual (zp st) f cdv A outer s H E).nox (Wd st) t/\t { nx:=fun _ H'=>Q .non H',rt:=Q } (start N vs) H):zA P w K mg base zX (k+1) f fd ps sp:=by
 obtain⟨oc,od,kV,doc,pm,an,cdv,ct,osl,rfl,lk,hcd⟩:=F.ex
 refine zm2 lk hcd S len fun A outer s H vs Q E hr hsp=>?_
 obtain⟨t,h,q⟩:=hbody cdv A outer s H vs Q E hr hsp
 exact⟨t,h.nox,q⟩
theorem xg.binds {x qual:Str}{st:Stmt}{f:Addr}{fd:FuncData}{ps:List Str}(F:xg K x qual st f fd)
  (h:∀(kV doc pm:Value) (an:Option Addr) (cdv ct:Value) (us:List Value),us.length=ps.length->bindArgs (PySem.W.fnOf x qual (Jm st) (Wd st) (zp st) .none kV doc pm an cdv ct) ⟨us,[]⟩=pure (ps.zip us)):Binds K fd ps []:=by
 obtain⟨oc,od,kV,doc,pm,an,cdv,ct,osl,rfl,lk,hcd⟩:=F.ex
 exact .all (h kV doc pm an cdv ct)
theorem zR {x qual:Str}{st:Stmt}{f:Addr}{oc:Value}{od an:Option Addr}{osl:Array (Option Value)}{kV doc pm cdv ct:Value}(l:K.lookup f=some ⟨oc,od,.func (PySem.W.fnOf x qual (Jm st) (Wd st) (zp st) .none kV doc pm an cdv ct),osl⟩)
  (c:PySem.W.codeIn K cdv qual=true)(k:PySem.W.keepIn K (.ref f)=true):xg K x qual st f (PySem.W.fnOf x qual (Jm st) (Wd st) (zp st) .none kV doc pm an cdv ct):=⟨⟨oc,od,kV,doc,pm,an,cdv,ct,osl,rfl,l,c⟩,k⟩
end
theorem RD {A:Around}{k:Nat}(hr:ZJ k A):A.units+1<cLine:=Nat.lt_of_le_of_lt (Nat.add_le_add_left (by decide:1<=64) _) hr.units
theorem zQ {n:Nat}(h:n<=1000):n<sizeLine:=Nat.lt_of_le_of_lt h (by decide)
section
variable {X:Cx}
theorem pv (i:Nat){x:Str}{pos:Pos}(hN:X.N[i]?=some x:=by rfl)(hv:Vis X.env.scope x:=by first | exact Or.inl rfl | exact Or.inr (Or.inl rfl) | exact Or.inr (Or.inr rfl))(hd:(x==("__debug__" : Str))=false:=by decide)
  (hcd:(x==("__classdict__" : Str))=false:=by decide):PE X (.Name x pos) (JH i):=zll hN hv hd hcd
end
theorem Vu {A B:Prop}(h:B):if false=true then A else B:=by
 rw[if_neg zug]
 exact h
theorem JV {A B:Prop}(h:A):if true=true then A else B:=by
 rw[if_pos rfl]
 exact h
theorem yr {c A B:Prop}[Decidable c](h1:c->A)(h2:¬c->B):if c then A else B:=by
 by_cases h:c
 ·rw[if_pos h]
  exact h1 h
 ·rw[if_neg h]
  exact h2 h
def Same (H H':Hp):Prop:=∀b o,H b=some o->H' b=some o
theorem Same.refl (H:Hp):Same H H:=fun _ _ h=>h
theorem Same.trans {H H1 H2:Hp}(a:Same H H1)(b:Same H1 H2):Same H H2:=fun c o h=>b c o (a c o h)
theorem Same.free {H H':Hp}(e:Same H H'){l:Addr}(h:H' l=Option.none):H l=Option.none:=by
 cases q:H l with
 | none=>rfl
 | some o =>
  rw[e l o q] at h
  cases h
theorem Same.seq {K:Frag}{H H':Hp}{a:Addr}{xs:List V}(e:Same H H')(h:zT K H a xs):zT K H' a xs:=by
 rcases h with (h | ⟨o,h⟩) | h
 ·exact .inl (.inl (e _ _ h))
 ·exact .inl (.inr ⟨o,e _ _ h⟩)
 ·exact .inr h
end L2
set_option maxHeartbeats 8000000
namespace L2
open PySem PySem.Spec PyProof.Rows
section
variable {X:Cx}{pins:List (Addr×Obj)}{σ:St}{H:Hp}{s:Shared}
theorem Rw.track {P:Program}{w:World}{H:Hp}{h:Heap}{a:Addr}{o:HO}(x:Rw P w H h)(hn:H a=none)(new:wL P w (upd H a o) h a o):Rw P w (upd H a o) h:=fun b u e=>by
 by_cases hb:b=a
 ·subst hb
  rw[zf] at e
  cases e
  exact new
 ·rw[zy hb] at e
  refine(x b u e).stay (fun _ _ _ q=>q) (fun c q=>?_) fun c xs q=>?_
  ·rw[zy (zx q hn)];exact q
  ·rw[zy (zx q hn)];exact q
theorem Inv.track {a:Addr}{o:HO}(I:Inv X pins σ H s)(hn:H a=none)(hL:a≠X.env.locals)(h0:X.s₀.heap.objs.size<=a)(hc:∀x c,X.env.cells.lookup x=some c->c≠a)(hp:∀p∈X.pn++pins,p.1≠a)
  (new:wL X.prog X.w (upd H a o) s.heap a o):Inv X pins σ (upd H a o) s:=by
 have old:∀b ob,X.s₀.heap.get? b=some ob->b≠a:=fun b ob e=>zur (zul (zuj e) h0)
 refine⟨I.ok,I.os,I.bare,⟨fun b ob e n=>I.base.keep b ob e n,fun b ob e n=>I.base.slot b ob e n,fun b ob e n hx=>?_,fun b ob e hx=>I.base.there b ob e hx,fun b xs e=>?_,fun b ob u e=>?_,fun b ps e=>?_⟩,I.loc,I.cell,?_,fun x c e=>?_,fun p hm=>?_,I.hok.track hn new,I.len⟩
 ·rw[zy (old b ob e)];exact I.base.free b ob e n hx
 ·have q:=I.base.tups b xs e
  rw[zy (zx q hn)];exact q
 ·have q:=I.base.zbh b ob u e
  rw[zy (zx q hn)];exact q
 ·obtain⟨mo,q⟩:=I.base.zcs b ps e
  exact⟨mo,by rw[zy (zx q hn)];exact q⟩
 ·rw[zy (Ne.symm hL)];exact I.free
 ·rw[zy (hc x c e)];exact I.U3 x c e
 ·obtain⟨z1,z2,z3⟩:=I.pin p hm
  exact⟨z1,by rw[zy (hp p hm)];exact z2,z3⟩
end
def clo:List (Str×NameKind)->List (Str×Addr)->List (Str×Addr)->List (Str×Addr)
 | [],_,acc=>acc
 | (n,k)::r,cells,acc=>clo r cells (if k==.free then (match cells.lookup n with | some c=>(n,c)::acc | none=>acc) else acc)
theorem W8 (cells:List (Str×Addr)):∀(names:List (Str×NameKind)) (acc:List (Str×Addr)),(∀y c,acc.lookup y=some c->cells.lookup y=some c)->∀y c,(clo names cells acc).lookup y=some c->cells.lookup y=some c
 | [],acc,h=>h
 | (n,k)::r,acc,h=>by
  refine W8 cells r _ fun y c e=>?_
  cases hk:k==NameKind.free with
  | false=>rw[hk] at e;exact h y c e
  | true =>
   rw[hk,if_pos rfl] at e
   cases hc:cells.lookup n with
   | none=>rw[hc] at e;exact h y c e
   | some a =>
    rw[hc] at e
    have e':(((n,a)::acc).lookup y)=some c:=e
    rw[zuB] at e'
    cases hy:y==n with
    | true =>
     rw[hy] at e'
     have z:y=n:=by simpa using hy
     subst z
     rw[hc];exact e'
    | false=>rw[hy] at e';exact h y c e'
theorem zbU (cells:List (Str×Addr)):∀(names:List (Str×NameKind)) (acc:List (Str×Addr)) (y:Str),(acc.lookup y).isSome=true->((clo names cells acc).lookup y).isSome=true
 | [],_,_,h=>h
 | (n,k)::r,acc,y,h=>by
  refine zbU cells r _ y ?_
  cases hk:k==NameKind.free with
  | false=>exact h
  | true =>
   rw[if_pos rfl]
   cases hc:cells.lookup n with
   | none=>exact h
   | some a =>
    show(((n,a)::acc).lookup y).isSome=true
    rw[zuB]
    cases hy:y==n with
    | true=>rfl
    | false=>exact h
theorem zcG (cells:List (Str×Addr)):∀(names:List (Str×NameKind)) (acc:List (Str×Addr)) (y:Str),(y,NameKind.free)∈names->(cells.lookup y).isSome=true->((clo names cells acc).lookup y).isSome=true
 | [],_,_,h,_=>by cases h
 | (n,k)::r,acc,y,h,hs=>by
  rcases List.mem_cons.mp h with e | h
  ·cases e
   refine zbU cells r _ n ?_
   show(((match cells.lookup n with | some c=>(n,c)::acc | none=>acc)).lookup n).isSome=true
   cases hc:cells.lookup n with
   | none=>rw[hc] at hs;cases hs
   | some a =>
    show(((n,a)::acc).lookup n).isSome=true
    rw[zuB]
    simp
  ·exact zcG cells r _ y h hs
theorem zgi {env:Env}:∀(names:List (Str×NameKind)) (acc:List (Str×Addr)),(∀y,(y,NameKind.free)∈names->(env.cells.lookup y).isSome=true) ->
  (forIn names acc fun(x:Str×NameKind) (cs:List (Str×Addr))=>if (x.2==NameKind.free)=true then do let c <-cellOf env x.1;pure (ForInStep.yield ((x.1,c)::cs)) else pure (ForInStep.yield cs):Sem (List (Str×Addr)))=pure (clo names env.cells acc)
 | [],acc,_=>rfl
 | (n,k)::r,acc,h=>by
  have ih:=fun acc'=>zgi (env:=env) r acc' fun y hy=>h y (zun _ hy)
  rw[List.forIn_cons]
  cases hk:k==NameKind.free with
  | false =>
   show((pure (ForInStep.yield acc):Sem _)>>=_)=_
   rw[pure_bind]
   show(forIn r acc _:Sem _)=_
   rw[ih acc]
   show pure (clo r env.cells acc)=pure (clo r env.cells (if (k==NameKind.free)=true then (match env.cells.lookup n with | some c=>(n,c)::acc | none=>acc) else acc))
   rw[hk];rfl
  | true =>
   have hkf:k=NameKind.free:=by simpa using hk
   subst hkf
   have hs:=h n zuv
   cases hc:env.cells.lookup n with
   | none=>rw[hc] at hs;cases hs
   | some a =>
    have hcell:cellOf env n=pure a:=by unfold cellOf;rw[hc]
    show((cellOf env n>>=fun c=>(pure (ForInStep.yield ((n,c)::acc)):Sem _))>>=_)=_
    rw[hcell,pure_bind,pure_bind]
    show(forIn r ((n,a)::acc) _:Sem _)=_
    rw[ih]
    show pure (clo r env.cells ((n,a)::acc))=pure (clo r env.cells (match env.cells.lookup n with | some c=>(n,c)::acc | none=>acc))
    rw[hc]
theorem ze7 {sc:Scope}{env:Env}(h:∀y,(y,NameKind.free)∈sc.names->(env.cells.lookup y).isSome=true):closureFor sc env=pure (clo sc.names env.cells []):=by
 unfold closureFor
 have:=zgi (env:=env) sc.names [] h
 simpa using this
structure YL (ZK sc:Scope)(x:Str)(fv:List Str):Prop where
 kind:sc.kind=.function
 Qc:∀y∈sc.names,y.2≠.cell
 names:∀y∈sc.names,y.2=.local->sc.names.lookup y.1=some .local
 hx:sc.names.lookup x=some .local
 fr:∀y∈sc.names,y.2=.free->ZK.names.lookup y.1=some .cell\/ZK.names.lookup y.1=some .free
 fvs:∀y∈fv,sc.names.lookup y=some .free/\(ZK.names.lookup y=some .cell\/ZK.names.lookup y=some .free)
 nd:(x::fv).Nodup
abbrev Cx.blk (X:Cx)(sc:Scope)(cl:List (Str×Addr))(C:Addr)(N:List Str)(s:Shared)(H:Hp)(fp:List Addr):Cx :=
 {X with N:=N,s₀:=s,H₀:=H,env:=compEnvC sc cl C X.env,outer:=X.stack,ex:=fp,fn:=fun _=>false,pn:=[],xe:=fun _ _=>False }
abbrev lcN (X:Cx)(x:Str)(js:List Nat):List Str:=x::js.map fun j=>X.N.getD j ""
abbrev YM (σ:St)(js:List Nat)(x:Option V):St:=x::js.map fun j=>σ.getD j none
theorem Y7 {env:Env}:∀{names:List (Str×NameKind)} {y:Str} {k:NameKind},(names.map fun(n,k)=>if (k==NameKind.free&&env.scope.kind==.function&&env.kindOf n==some .cell) then (n,NameKind.cell) else (n,k)).lookup y=some k->(k=.cell\/k=.free)->(∀z∈names,z.2≠.cell)->(y,NameKind.free)∈names
 | [],_,_,h,_,_=>by simp at h
 | (n,k')::r,y,k,h,hk,hn=>by
  by_cases hc:(k'==NameKind.free&&env.scope.kind==.function&&env.kindOf n==some .cell)=true
  ·have hk':k'=NameKind.free:=by
    rw[zuD,zuD] at hc
    simpa using hc.1.1
   subst hk'
   rw[zuA] at h
   cases hy:y==n with
   | true =>
    have z:y=n:=by simpa using hy
    subst z
    exact zuv
   | false =>
    have h':List.lookup y ((if (NameKind.free==NameKind.free&&env.scope.kind==.function&&env.kindOf n==some .cell)=true then (n,NameKind.cell) else (n,NameKind.free))::(r.map fun(n,k)=>if (k==NameKind.free&&env.scope.kind==.function&&env.kindOf n==some .cell) then (n,NameKind.cell) else (n,k)))=some k:=h
    rw[if_pos hc,zuB,hy] at h'
    exact zun _ (Y7 h' hk fun z hz=>hn z (zun _ hz))
  ·have h':List.lookup y ((if (k'==NameKind.free&&env.scope.kind==.function&&env.kindOf n==some .cell)=true then (n,NameKind.cell) else (n,k'))::(r.map fun(n,k)=>if (k==NameKind.free&&env.scope.kind==.function&&env.kindOf n==some .cell) then (n,NameKind.cell) else (n,k)))=some k:=h
   rw[if_neg hc,zuB] at h'
   cases hy:y==n with
   | true =>
    rw[hy] at h'
    cases h'
    have z:y=n:=by simpa using hy
    subst z
    rcases hk with e | e
    ·exact absurd e (hn _ zuv)
    ·subst e;exact zuv
   | false =>
    rw[hy] at h'
    exact zun _ (Y7 h' hk fun z hz=>hn z (zun _ hz))
theorem JW {env:Env}:∀{names:List (Str×NameKind)} {y:Str},names.lookup y=some .free->(names.map fun(n,k)=>if (k==NameKind.free&&env.scope.kind==.function&&env.kindOf n==some .cell) then (n,NameKind.cell) else (n,k)).lookup y=some .cell\/(names.map fun(n,k)=>if (k==NameKind.free&&env.scope.kind==.function&&env.kindOf n==some .cell) then (n,NameKind.cell) else (n,k)).lookup y=some .free
 | [],_,h=>by simp at h
 | (n,k')::r,y,h=>by
  rw[zuB] at h
  rw[zuA]
  cases hy:y==n with
  | true =>
   rw[hy] at h
   cases h
   by_cases hc:(NameKind.free==NameKind.free&&env.scope.kind==.function&&env.kindOf n==some .cell)=true
   ·refine .inl ?_
    show List.lookup y ((if (NameKind.free==NameKind.free&&env.scope.kind==.function&&env.kindOf n==some .cell)=true then (n,NameKind.cell) else (n,NameKind.free))::_)=_
    rw[if_pos hc,zuB,hy]
   ·refine .inr ?_
    show List.lookup y ((if (NameKind.free==NameKind.free&&env.scope.kind==.function&&env.kindOf n==some .cell)=true then (n,NameKind.cell) else (n,NameKind.free))::_)=_
    rw[if_neg hc,zuB,hy]
  | false =>
   rw[hy] at h
   have ih:=JW (env:=env) h
   by_cases hc:(k'==NameKind.free&&env.scope.kind==.function&&env.kindOf n==some .cell)=true
   ·show List.lookup y ((if (k'==NameKind.free&&env.scope.kind==.function&&env.kindOf n==some .cell)=true then (n,NameKind.cell) else (n,k'))::_)=_\/List.lookup y ((if (k'==NameKind.free&&env.scope.kind==.function&&env.kindOf n==some .cell)=true then (n,NameKind.cell) else (n,k'))::_)=_
    rw[if_pos hc,zuB,hy]
    exact ih
   ·show List.lookup y ((if (k'==NameKind.free&&env.scope.kind==.function&&env.kindOf n==some .cell)=true then (n,NameKind.cell) else (n,k'))::_)=_\/List.lookup y ((if (k'==NameKind.free&&env.scope.kind==.function&&env.kindOf n==some .cell)=true then (n,NameKind.cell) else (n,k'))::_)=_
    rw[if_neg hc,zuB,hy]
    exact ih
abbrev v7 (its:List Value)(n:Nat):Obj:={ cls:=.type "list", data:=.seq its.toArray n }
abbrev Y8 (ifs:List Expr)(env:Env):Sem Bool :=
 forIn ifs true fun c r=>if r=true then do let ok <-isTrue c env (eval c env);pure (ForInStep.yield ok) else pure (ForInStep.yield r)
def tLC (wi:TI)(js:List Nat)(tt:TT)(te:TE):TE:=fun σ H Q=>wi σ H fun J H1=>∃W:Nat->Nat->List V->Hp->Prop,(∃m,W 0 m [] H1)/\∀i m ys H,W i m ys H ->
 (J.stop i H/\∀p,H p=none->Q (.ref p) (upd H p (.lst ys))) \/
 (J.go i H/\ys.length<sizeLine/\∀x H',J.Jb i H x H'->tt (YM σ js (some x)) H' fun b H2 =>
  if b=true then te (YM σ js (some x)) H2 fun v H3=>∃m',m'<m/\W (i+1) m' (ys++[v]) H3 else ∃m',m'<m/\W (i+1) m' ys H2)
section
variable {X:Cx}{sc ZK:Scope}{x:Str}{js:List Nat}{elt iter:Expr}{px pos:Pos}{ifs:List Expr}{wi:TI}{tt:TT}{te:TE}
theorem zjN {P:Program}{w:World}{A:Around}{R:Result->Shared->Prop}{st:Shared}{tg it acc}{cenv:Env}(Iv:Nat->Shared->Prop)
  (step:∀k st,Iv k st->wpAny (model P w) A (pyNext it) (fun got s1=>match got with
   | none=>R (.ok .next) s1
   | some v=>wpAny (model P w) A (letOwnedTupleGo tg it v) (fun _ s2=>wpAny (model P w) A (assign tg cenv v) (fun _ s3 =>
     wpAny (model P w) A (Y8 ifs cenv) (fun ok s4=>if ok=true then wpAny (model P w) A (eval elt cenv) (fun y s5 =>
       wpAny (model P w) A (call (.builtin "list.append") [acc,y]) (fun _ s6=>∃k',k'<k/\Iv k' s6) (notedBy (model P w) A cenv fun e z=>R (.error e) z) s5) (notedBy (model P w) A cenv fun e z=>R (.error e) z) s4
      else ∃k',k'<k/\Iv k' s4) (notedBy (model P w) A cenv fun e z=>R (.error e) z) s3) (notedBy (model P w) A cenv fun e z=>R (.error e) z) s2) (notedBy (model P w) A cenv fun e z=>R (.error e) z) s1)
   (notedBy (model P w) A cenv fun e z=>R (.error e) z) st)(k0:Nat)(h0:Iv k0 st) :
  codeAny (model P w) A (.compLoop (.ListComp elt [⟨tg,iter,ifs,0⟩] sc pos) 0 it acc cenv) R st:=by
 refine codeAny_loop rfl Iv (fun k st hk=>?_) k0 h0
 show wpAny _ A ((compTurn (.ListComp elt [⟨tg,iter,ifs,0⟩] sc pos) 0 it acc cenv).onRaise (fun e=>do noteFrame e cenv;theTreesLotGoes e)) _ _ st
 refine wpAny_noted ?_
 rw[compTurn_list]
 refine wpAny_bind (wpAny_standAt (wpAny_bind (wpAny_mono (step k st hk) (fun got s1 h1=>?_) fun _ _ z=>z)))
 cases got with
 | none=>exact wpAny_pure h1
 | some v =>
  refine wpAny_bind (wpAny_mono h1 (fun _ s2 h2=>?_) fun _ _ z=>z)
  refine wpAny_bind (wpAny_mono h2 (fun _ s3 h3=>wpAny_bind (wpAny_mono h3 (fun ok s4 h4=>?_) fun _ _ z=>z)) fun _ _ z=>z)
  cases ok with
  | false=>exact wpAny_pure ⟨rfl,h4⟩
  | true=>exact wpAny_bind (wpAny_bind (wpAny_mono h4 (fun y s5 h5=>wpAny_bind (wpAny_mono h5 (fun _ s6 h6=>wpAny_pure (wpAny_pure ⟨rfl,h6⟩)) fun _ _ z=>z)) fun _ _ z=>z))
structure Own (X:Cx)(pins:List (Addr×Obj))(H:Hp)(a:Addr):Prop where
 free:H a=none
 loc:a≠X.env.locals
 new:X.s₀.heap.objs.size<=a
 cel:∀x c,X.env.cells.lookup x=some c->c≠a
 pin:∀p∈X.pn++pins,p.1≠a
 fs:a∉X.fs
end
structure zgj (ZK sc:Scope)(xs:List Str)(fv:List Str):Prop where
 kind:sc.kind=.function
 Qc:∀y∈sc.names,y.2≠.cell
 names:∀y∈sc.names,y.2=.local->sc.names.lookup y.1=some .local
 fr:∀y∈sc.names,y.2=.free->ZK.names.lookup y.1=some .cell\/ZK.names.lookup y.1=some .free
 fvs:∀y∈fv,sc.names.lookup y=some .free/\(ZK.names.lookup y=some .cell\/ZK.names.lookup y=some .free)
abbrev Q6 (X:Cx)(xs:List Str)(js:List Nat):List Str:=xs++js.map fun j=>X.N.getD j ""
abbrev lcT (σ:St)(js:List Nat)(os:List (Option V)):St:=os++js.map fun j=>σ.getD j none
def zm6 (wi:TI)(xs:List Str)(js:List Nat)(g:TG)(tt:TT)(te:TE):TE:=fun σ H Q=>wi σ H fun J H1=>∃W:Nat->Nat->List V->Hp->Prop,(∃m,W 0 m [] H1)/\∀i m ys H,W i m ys H ->
 (J.stop i H/\∀p,H p=none->Q (.ref p) (upd H p (.lst ys))) \/
 (J.go i H/\ys.length<sizeLine/\∀x H',J.Jb i H x H'->∀o0:List (Option V),o0.length=xs.length->g x (lcT σ js o0) H' fun σ2 H1=>∃o1,σ2=lcT σ js o1/\o1.length=xs.length/\tt σ2 H1 fun b H2 =>
  if b=true then te σ2 H2 fun v H3=>∃m',m'<m/\W (i+1) m' (ys++[v]) H3 else ∃m',m'<m/\W (i+1) m' ys H2)
section
variable {X:Cx}{sc ZK:Scope}{xs:List Str}{js:List Nat}
theorem zjO {pins:List (Addr×Obj)}{σ:St}{H:Hp}{s:Shared}{fp:List Addr}{C:Addr}(I:Inv X pins σ H s)(Vv:X.env.scope=ZK)(L:zgj ZK sc xs (js.map fun j=>X.N.getD j ""))
  (f2:∀b∈fp,zbi X pins H b)(lt:∀b∈fp,b<s.heap.objs.size)(hC:s.heap.objs.size<=C):(X.blk sc (clo sc.names X.env.cells []) C (Q6 X xs js) s H fp).Ok where
 mod:=I.ok.mod
 kind:=L.kind
 glob:=I.ok.glob
 blt:=I.ok.blt
 above:=hC
 inj:=fun y z c h1 h2=>I.ok.inj y z c (W8 _ _ [] (fun _ _ e=>by simp at e) y c h1) (W8 _ _ [] (fun _ _ e=>by simp at e) z c h2)
 has:=fun y hy=>by
  have hy':(relabel sc X.env).names.lookup y=some .cell\/(relabel sc X.env).names.lookup y=some .free:=hy
  have hm:(y,NameKind.free)∈sc.names:=by
   rcases hy' with e | e
   ·exact Y7 e (.inl rfl) L.Qc
   ·exact Y7 e (.inr rfl) L.Qc
  have ho:X.env.kindOf y=some .cell\/X.env.kindOf y=some .free:=by
   show X.env.scope.names.lookup y=_\/X.env.scope.names.lookup y=_
   rw[Vv]
   exact L.fr _ hm rfl
  obtain⟨c,e⟩:=I.ok.has y ho
  exact Option.isSome_iff_exists.mp (zcG _ _ [] y hm (by rw[e];rfl))
 cab:=fun y c h=>by cases h
 hd:=I.ok.hd
 frames:=I.ok.frames
 stk:=.inl rfl
 exf:=fun b hb=>⟨zur (zul (lt b hb) hC),fun y c e=>(f2 b hb).2.2.2.2.1 y c (W8 _ _ [] (fun _ _ e=>by simp at e) y c e)⟩
 bs:=I.bs
 bsz:=zux I.ok.bsz I.sz
 zgR:=fun b o e hb=>by
  rcases (f2 b hb).2.2.2.1 with z | z
  ·exact I.ok.zgR b o e z
  ·exact absurd (zul (zuj (I.ok.bs b o e).1) z) (Nat.lt_irrefl _)
 zgS:=fun b hb hm=>by
  rcases List.mem_cons.mp (I.zcu b hm) with z | z
  ·exact(f2 b hb).2.1 z
  ·exact(f2 b hb).2.2.1 z
 Nz:=I.stack
 frf:=I.zf6
end
section
variable {X:Cx}{sc ZK:Scope}{xs:List Str}{js:List Nat}{tg:Expr}{g:TG}{elt iter:Expr}{px pos:Pos}{ifs:List Expr}{wi:TI}{tt:TT}{te:TE}
theorem zir {cl:List (Str×Addr)}{C D:Addr}{s₂:Shared}{H₂:Hp}{fp:List Addr}{pl:List (Addr×Obj)}{σ0:St}{H:Hp}{s:Shared}{u:Value}{v:V}{its:List Value}{n:Nat}{o0:List (Option V)}{E:Value->Shared->Prop}
  {Ny:V->Hp->Prop}{Nn:Hp->Prop}
  (hg:PG (X.blk sc cl C (Q6 X xs js) s₂ H₂ fp) tg g)
  (I:Inv (X.blk sc cl C (Q6 X xs js) s₂ H₂ fp) ((D,v7 its n)::pl) (lcT σ0 js o0) H s)(ru:RelV v u)
  (ht:∀(pins:List (Addr×Obj)) (s':Shared) (σ':St) (H':Hp) (Q:Bool->Hp->Prop),Inv (X.blk sc cl C (Q6 X xs js) s₂ H₂ fp) pins σ' H' s'->tt σ' H' Q ->
   wpAny (model X.prog X.w) X.A (Y8 ifs (compEnvC sc cl C X.env)) (TP (X.blk sc cl C (Q6 X xs js) s₂ H₂ fp) pins σ' Q) (fun _ _=>False) s')
  (he:PE (X.blk sc cl C (Q6 X xs js) s₂ H₂ fp) elt te)
  (hlen:its.length<sizeLine)(hD0:s₂.heap.objs.size<=D)(hDC:D≠C)(hDc:∀y c,cl.lookup y=some c->c≠D)(hDp:∀p∈pl,p.1≠D)
  (h:g v (lcT σ0 js o0) H fun σ2 H1=>∃o1,σ2=lcT σ0 js o1/\o1.length=xs.length/\tt σ2 H1 fun b H2=>if b=true then te σ2 H2 Ny else Nn H2) :
  wpAny (model X.prog X.w) X.A (assign tg (compEnvC sc cl C X.env) u) (fun _ s2 =>
   wpAny (model X.prog X.w) X.A (Y8 ifs (compEnvC sc cl C X.env)) (fun ok s3 =>
    if ok=true then wpAny (model X.prog X.w) X.A (eval elt (compEnvC sc cl C X.env)) (fun y s4 =>
     wpAny (model X.prog X.w) X.A (call (.builtin "list.append") [.ref D,y]) (fun _ s5=>∃z y' H5 o1,o1.length=xs.length/\Ny z H5/\RelV z y'/\Inv (X.blk sc cl C (Q6 X xs js) s₂ H₂ fp) ((D,v7 (its++[y']) (n+1))::pl) (lcT σ0 js o1) H5 s5) E s4) E s3
    else ∃H5 o1,o1.length=xs.length/\Nn H5/\Inv (X.blk sc cl C (Q6 X xs js) s₂ H₂ fp) ((D,v7 its n)::pl) (lcT σ0 js o1) H5 s3) E s2) E s:=by
 refine wpAny_mono (hg _ s _ H v u _ I ru h) (fun _ s2 ⟨σ6,H6,I6,o1,e1,l1,h6⟩=>?_) fun _ _ z=>False.elim z
 subst e1
 refine wpAny_mono (ht _ s2 _ _ _ I6 h6) (fun ok s3 ⟨H7,I7,q7⟩=>?_) fun _ _ z=>False.elim z
 cases ok with
 | false =>
  rw[if_neg zug] at q7 ⊢
  exact⟨H7,o1,l1,q7,I7⟩
 | true =>
  rw[if_pos rfl] at q7 ⊢
  refine wpAny_mono (he _ s3 _ H7 _ I7 q7) (fun y s4 ⟨z,H8,I8,r8,q8⟩=>?_) fun _ _ z=>False.elim z
  obtain⟨p1,p2,p3,p4,p5⟩:=I8.pin (D,v7 its n) (zut _ zuv)
  have p1':s4.heap.get? D=some { cls:=.type "list", data:=.seq its.toArray n }:=p1
  refine call_meets F.slot_list_append ⟨_,p1',rfl⟩ F.entry_list_append (F.args_list_append_2 _ _) (PySem.list_append D its.toArray n y (by rw[zum];omega)) ⟨p1',?_⟩
  have q:=PySem.IsL.update p1' (fun a=>a.push y)
  have sz:((its.toArray.push y).size==its.toArray.size)=false:=by simp
  have e3:(s4.heap.update D (Obj.mapSeq fun a=>a.push y)).get? D=some (v7 (its++[y]) (n+1)):=by
   have q':(s4.heap.update D (Obj.mapSeq fun a=>a.push y)).get? D=some { cls:=.type "list", data:=.seq (its.toArray.push y) (if ((its.toArray.push y).size==its.toArray.size)=true then n else n+1) }:=q
   rw[q',sz,if_neg zug]
   simp
  have I9:Inv (X.blk sc cl C (Q6 X xs js) s₂ H₂ fp) pl (lcT σ0 js o1) H8 s4:=I8.Vp fun p hp=>I8.pin p (zut _ (zun _ hp))
  have oth:∀b o,b≠D->s4.heap.get? b=some o->(s4.heap.update D (Obj.mapSeq fun a=>a.push y)).get? b=some o:=fun b o hb e=>(Heap.get?_update_other _ _ (Ne.symm hb)).trans e
  have I10:=I9.turned (t':=s4.toks) (h':=s4.heap.update D (Obj.mapSeq fun a=>a.push y)) (it:=D) oth p2 hDC (.inr hD0) hDc (fun p hp=>hDp p hp)
  refine⟨z,y,H8,o1,l1,q8,r8,I10.Vp fun p hp=>?_⟩
  rcases List.mem_cons.mp hp with e | e
  ·subst e
   exact⟨e3,p2,p3,p4,fun w hw=>by cases hw⟩
  ·exact I10.pin p (zut _ e)
theorem zdD {use:Option (Value->Sem Unit)}{QQ:Value->Shared->Prop}{Fin:List V->Hp->Prop}{pins:List (Addr×Obj)}{s:Shared}{σ:St}{H:Hp}(Vv:X.env.scope=ZK)(L:zgj ZK sc xs (js.map fun j=>X.N.getD j "")){rd:Cx->Prop}(hc:∀sc cl C N s H fp,rd (X.blk sc cl C N s H fp))(hi:PIr rd X tg iter wi)(hg:∀(cl:List (Str×Addr)) (C:Addr) (s₂:Shared) (H₂:Hp) (fp:List Addr),PG (X.blk sc cl C (Q6 X xs js) s₂ H₂ fp) tg g)(hjs:∀j∈js,j<X.N.length)
  (ht:∀(cl:List (Str×Addr)) (C:Addr) (s₂:Shared) (H₂:Hp) (fp:List Addr) (pins:List (Addr×Obj)) (s':Shared) (σ':St) (H':Hp) (Q:Bool->Hp->Prop),Inv (X.blk sc cl C (Q6 X xs js) s₂ H₂ fp) pins σ' H' s'->tt σ' H' Q ->
   wpAny (model X.prog X.w) X.A (Y8 ifs (compEnvC sc cl C X.env)) (TP (X.blk sc cl C (Q6 X xs js) s₂ H₂ fp) pins σ' Q) (fun _ _=>False) s')
  (he:∀(cl:List (Str×Addr)) (C:Addr) (s₂:Shared) (H₂:Hp) (fp:List Addr),PE (X.blk sc cl C (Q6 X xs js) s₂ H₂ fp) elt te)
  (hs:∀x,foldedSetIterable iter X.env x=pure x)(I:Inv X pins σ H s)
  (h:wi σ H fun J H1=>∃W:Nat->Nat->List V->Hp->Prop,(∃m,W 0 m [] H1)/\∀i m ys H,W i m ys H->(J.stop i H/\Fin ys H) \/
   (J.go i H/\ys.length<sizeLine/\∀x H',J.Jb i H x H'->∀o0:List (Option V),o0.length=xs.length->g x (lcT σ js o0) H' fun σ2 H1=>∃o1,σ2=lcT σ js o1/\o1.length=xs.length/\tt σ2 H1 fun b H2 =>
    if b=true then te σ2 H2 fun v H3=>∃m',m'<m/\W (i+1) m' (ys++[v]) H3 else ∃m',m'<m/\W (i+1) m' ys H2))
  (hfin:∀(D C:Addr) (s5:Shared) (H5:Hp) (ys:List V) (its:List Value) (k:Nat) (m5:Str->Option Value),Inv X pins σ H5 s5->Own X pins H5 D->Own X pins H5 C->D≠C->s5.heap.get? D=some (v7 its k)->Vals ys its->ys.length<=sizeLine->s5.heap.Ns C m5->Fin ys H5 ->
   compPost (model X.prog X.w) X.A X.xe use QQ (.ref D) C (.ok .next) s5) :
  wpAny (model X.prog X.w) X.A (comprehension (.ListComp elt [⟨tg,iter,ifs,0⟩] sc pos) sc X.env (firstIterPos [⟨tg,iter,ifs,0⟩] pos) (newList []) false (eval iter X.env) use) QQ X.xe s:=by
 have hcl:closureFor sc X.env=pure (clo sc.names X.env.cells []):=ze7 fun y hy=>by
  have ho:X.env.kindOf y=some .cell\/X.env.kindOf y=some .free:=by
   show X.env.scope.names.lookup y=_\/X.env.scope.names.lookup y=_
   rw[Vv]
   exact L.fr _ hy rfl
  obtain⟨c,e⟩:=I.ok.has y ho
  rw[e];rfl
 refine wpAny_comprehension_free (use:=use) rfl hs hcl L.kind L.names (wM (hi pins s σ H _ I h) fun v s1 h1=>wM h1 fun itv s2 h2=>?_)
 obtain⟨it,fp,tn,J,H2,e,I2,T,st2,f2,W,⟨m0,w0⟩,turn⟩:=h2
 subst e
 refine wpAny_newObj_type (wpAny_newFunctionEnv L.Qc (by intro y hy;simp at hy) (fun h₁ hns₁ hsb₁=>?_) L.kind)
 dsimp only at hns₁ hsb₁ ⊢
 generalize hG:s2.heap.push { cls:=.type "list", dict:=none,data:=.seq ([]:List Value).toArray }=G at hns₁ hsb₁ ⊢
 have hGs:G.objs.size=s2.heap.objs.size+1:=by rw[<-hG,Heap.size_push]
 have hCle:s2.heap.objs.size<=G.objs.size:=by rw[hGs];exact Nat.le_succ _
 have hDC:s2.heap.objs.size≠G.objs.size:=by rw[hGs];exact zur (Nat.lt_succ_self _)
 have old:∀b o,s2.heap.get? b=some o->h₁.get? b=some o:=fun b o e=>by
  have lt:=zuj e
  refine hsb₁.extBut b o (zur (zul lt hCle)) (zui _ ?_)
  rw[<-hG]
  exact zui _ e
 have hacc:h₁.get? s2.heap.objs.size=some (v7 [] 0):=by
  refine hsb₁.extBut _ _ hDC (zui _ ?_)
  rw[<-hG]
  exact zuw _ rfl
 have lt:∀b∈fp,b<s2.heap.objs.size:=fun b hb=>by
  obtain⟨o,e,_⟩:=T.obj _ _ st2 b hb
  exact zuj e
 have clS:∀y c,(clo sc.names X.env.cells []).lookup y=some c->X.env.cells.lookup y=some c:=W8 _ _ [] (fun _ _ e=>by simp at e)
 have zo8:∀y c,(clo sc.names X.env.cells []).lookup y=some c->c<s2.heap.objs.size:=fun y c e=>by
  obtain⟨v,o,q,_⟩:=I2.cell y c (clS y c e)
  exact zuj q
 have Bok:(X.blk sc (clo sc.names X.env.cells []) G.objs.size (Q6 X xs js) s2 H2 fp).Ok:=zjO I2 Vv L f2 lt hCle
 have fresh:∀a,s2.heap.objs.size<=a->H2 a=none:=fun a ha=>I2.hok.fresh ha
 have zlI:∀b∈frs X.stack,b<s2.heap.objs.size:=fun b hb=>by
  rcases List.mem_cons.mp (I2.zcu b hb) with z | z
  ·rw[z];exact I2.lt
  ·refine Nat.lt_of_not_le fun q=>I2.zlj q z
 have B0:Inv (X.blk sc (clo sc.names X.env.cells []) G.objs.size (Q6 X xs js) s2 H2 fp) [(s2.heap.objs.size,v7 [] 0)] (lcT σ js (List.replicate xs.length none)) H2 { s2 with heap:=h₁,toks:=s2.toks+([]:List (Str×Value)).length }:=by
  refine⟨Bok,rfl,I2.bare,Un.kept old,⟨_,hns₁,fun i y v e1 e2 e3=>?_⟩,fun y c e=>?_,fresh _ hCle,fun y c e=>I2.U3 y c (clS y c e),fun p hp=>?_,I2.hok.kept old,?_⟩
  ·by_cases hlt:i<xs.length
   ·exfalso
    have e2'':(List.replicate xs.length (none:Option V)++js.map fun j=>σ.getD j none)[i]?=some (some v):=e2
    rw[zuI (by rw[List.length_replicate];exact hlt),List.getElem?_replicate,if_pos hlt] at e2''
    cases e2''
   ·have e1':(js.map fun j=>X.N.getD j "")[i-xs.length]?=some y:=by
     have z:(xs++js.map fun j=>X.N.getD j "")[i]?=some y:=e1
     rw[List.getElem?_append_right (by omega)] at z
     exact z
    have e2':(js.map fun j=>σ.getD j none)[i-xs.length]?=some (some v):=by
     have z:(List.replicate xs.length (none:Option V)++js.map fun j=>σ.getD j none)[i]?=some (some v):=e2
     rw[List.getElem?_append_right (by rw[List.length_replicate];omega),List.length_replicate] at z
     exact z
    have e1s:=e1'
    rw[zue] at e1' e2'
    cases hj:js[i-xs.length]? with
    | none=>rw[hj] at e1';cases e1'
    | some j =>
     rw[hj] at e1' e2'
     have e4:X.N.getD j ""=y:=zuG e1'
     have e5:σ.getD j none=some v:=zuG e2'
     have hjl:=hjs j (zuh hj)
     have e6:X.N[j]?=some y:=by
      rw[zup,zud hjl] at e4
      rw[zud hjl]
      exact congrArg some e4
     have e7:σ[j]?=some (some v):=by
      rw[zup] at e5
      cases hq:σ[j]? with
      | none=>rw[hq] at e5;cases e5
      | some w=>rw[hq] at e5;exact congrArg some e5
     obtain⟨hm0,hk⟩:=L.fvs y (zuh e1s)
     have hm:(y,NameKind.free)∈sc.names:=PySem.mem_of_lookup hm0
     have hk':X.env.kindOf y=some .cell\/X.env.kindOf y=some .free:=by
      show X.env.scope.names.lookup y=_\/X.env.scope.names.lookup y=_
      rw[Vv];exact hk
     have hv:Vis X.env.scope y:=by rcases hk' with z | z;exact .inr (.inl z);exact .inr (.inr z)
     obtain⟨m,hn,hl⟩:=I2.loc
     obtain⟨u,r,l⟩:=hl j y v e6 e7 hv
     refine⟨u,r,.inr ?_⟩
     rcases l with ⟨z,_⟩ | ⟨_,c,hc1,hc2⟩
     ·rw[z] at hk';rcases hk' with q | q<;>cases q
     ·have hs2:((clo sc.names X.env.cells []).lookup y).isSome=true:=zcG _ _ [] y hm (by rw[hc1];rfl)
      obtain⟨c',hc'⟩:=Option.isSome_iff_exists.mp hs2
      have hcc:c'=c:=by have:=clS y c' hc';rw[hc1] at this;exact(zuG this).symm
      subst hcc
      obtain⟨o,ho,hd⟩:=hc2
      exact⟨JW hm0,c',hc',o,old _ o ho,hd⟩
  ·obtain⟨v,o,q,d⟩:=I2.cell y c (clS y c e)
   exact⟨v,o,old _ o q,d⟩
  ·have e:p=(s2.heap.objs.size,v7 [] 0):=by simpa using hp
   subst e
   exact⟨hacc,fresh _ (zus _),hDC,fun z=>Nat.lt_irrefl _ (zlI _ z),fun w hw=>by cases hw⟩
  ·show _=(Q6 X xs js).length
   simp
 have stat:∀{H':Hp} {pl:List (Addr×Obj)},(∀b∈fp,H' b=none)->(∀p∈pl,p.1=s2.heap.objs.size)->∀b∈fp,zbi (X.blk sc (clo sc.names X.env.cells []) G.objs.size (Q6 X xs js) s2 H2 fp) pl H' b:=fun hn hp b hb =>
  ⟨hn b hb,(Bok.exf b hb).1,Bok.zgS b hb,.inl hb,(Bok.exf b hb).2,fun p hm=>by
   rw[hp p (by simpa using hm)]
   exact Ne.symm (zur (lt b hb))⟩
 have loop:∀s3:Shared,s3={ s2 with heap:=h₁,toks:=s2.toks+([]:List (Str×Value)).length } ->
   codeAny (model X.prog X.w) X.A (.compLoop (.ListComp elt [⟨tg,iter,ifs,0⟩] sc pos) 0 (.ref it) (.ref s2.heap.objs.size) (compEnvC sc (clo sc.names X.env.cells []) G.objs.size X.env))
    (compPost (model X.prog X.w) X.A X.xe use QQ (.ref s2.heap.objs.size) G.objs.size) s3:=by
  rintro s3 rfl
  refine zjN (fun n s'=>∃i ys its k o0 H',o0.length=xs.length/\Inv (X.blk sc (clo sc.names X.env.cells []) G.objs.size (Q6 X xs js) s2 H2 fp) [(s2.heap.objs.size,v7 its k)] (lcT σ js o0) H' s'/\tn i s'.heap/\(∀b∈fp,H' b=none)/\Vals ys its/\ys.length<=sizeLine/\W i n ys H') ?_ m0
   ⟨0,[],[],0,List.replicate xs.length none,H2,List.length_replicate,B0,T.keep _ _ _ st2 fun b _ o e=>old b o e,fun b hb=>(f2 b hb).1,.nil,zuy _,w0⟩
  rintro n s4 ⟨i,ys,its,k,o0,H4,lo0,I4,st4,fr4,vs4,z4,w4⟩
  have one:∀p∈[(s2.heap.objs.size,v7 its k)],p.1=s2.heap.objs.size:=fun p hp=>by
   have e:p=(s2.heap.objs.size,v7 its k):=by simpa using hp
   rw[e]
  rcases turn i n ys H4 w4 with ⟨stop,qn⟩ | ⟨go,zl,step⟩
  ·refine wM (T.done (X.blk sc (clo sc.names X.env.cells []) G.objs.size (Q6 X xs js) s2 H2 fp) rfl rfl rfl (hc _ _ _ _ _ _ _) i _ s4 _ H4 _ I4 (stat fr4 one) st4 stop) fun r s5 ⟨hr,I5⟩=>?_
   subst hr
   obtain⟨m5,hn5,_⟩:=I5.loc
   obtain⟨p1,p2,p3,p4,p5⟩:=I5.pin (s2.heap.objs.size,v7 its k) (by simp)
   have ch:∀b∈fp,(b∈X.ex\/X.s₀.heap.objs.size<=b)/\b≠X.env.locals/\(∀x c,X.env.cells.lookup x=some c->c≠b)/\∀p∈X.pn++pins,p.1≠b:=fun b hb =>
    ⟨(f2 b hb).2.2.2.1,(f2 b hb).2.1,(f2 b hb).2.2.2.2.1,(f2 b hb).2.2.2.2.2⟩
   have J1:Inv X pins σ H4 s5:=I2.call' I5.os I5.base I5.hok I5.bare ch
   have ltp:∀p∈X.pn++pins,p.1<s2.heap.objs.size:=fun p hp=>zuj (I2.pin p hp).1
   have ltc:∀y c,X.env.cells.lookup y=some c->c<s2.heap.objs.size:=fun y c e=>by
    obtain⟨v,o,q,_⟩:=I2.cell y c e
    exact zuj q
   have s0:X.s₀.heap.objs.size<=s2.heap.objs.size:=I2.sz
   have own:∀a,s2.heap.objs.size<=a->H4 a=none->Own X pins H4 a:=fun a ha hn=>⟨hn,Ne.symm (zur (zul I2.lt ha)),zux s0 ha,fun y c e=>zur (zul (ltc y c e) ha),
    fun p hp=>zur (zul (ltp p hp) ha),I2.zlj ha⟩
   exact hfin _ _ s5 H4 ys its k m5 J1 (own _ (zus _) p2) (own _ hCle I5.free) hDC p1 vs4 z4 hn5 qn
  ·refine wM (T.item (X.blk sc (clo sc.names X.env.cells []) G.objs.size (Q6 X xs js) s2 H2 fp) rfl rfl rfl (hc _ _ _ _ _ _ _) i _ s4 _ H4 _ I4 (stat fr4 one) st4 go) fun r s5 ⟨u,hr,h5⟩=>?_
   subst hr
   refine wpAny_mono h5 (fun _ s5' ⟨v,H6,I6,r6,y6,st6,fr6⟩=>?_) fun _ _ z=>z
   have I7:=I6.pinned (stat fr6 one) (T.obj _ _ st6)
   have zpb:∀p∈R8 fp s5'.heap,p.1≠s2.heap.objs.size:=fun p hp=>zur (lt _ (zbK hp).1)
   have zsi:=vs4.length
   have back:∀{its':List Value} {k':Nat} {H7:Hp} {s7:Shared} {ys':List V} {m':Nat} {o1:List (Option V)},o1.length=xs.length->Inv (X.blk sc (clo sc.names X.env.cells []) G.objs.size (Q6 X xs js) s2 H2 fp) ((s2.heap.objs.size,v7 its' k')::R8 fp s5'.heap) (lcT σ js o1) H7 s7 ->
     Vals ys' its'->ys'.length<=sizeLine->m'<n->W (i+1) m' ys' H7->∃m,m<n/\∃i ys its k o0 H',o0.length=xs.length/\Inv (X.blk sc (clo sc.names X.env.cells []) G.objs.size (Q6 X xs js) s2 H2 fp) [(s2.heap.objs.size,v7 its k)] (lcT σ js o0) H' s7/\tn i s7.heap/\(∀b∈fp,H' b=none)/\Vals ys its/\ys.length<=sizeLine/\W i m ys H':=by
    intro its' k' H7 s7 ys' m' o1 l1 J vs' z' hm w'
    refine⟨m',hm,i+1,ys',its',k',o1,H7,l1,J.Vp fun p hp=>J.pin p (zut _ (by simp at hp;simp[hp])),?_,?_,vs',z',w'⟩
    ·exact T.keep _ _ _ st6 fun b hb o e=>(J.pin (b,o) (zut _ (zun _ (Vs hb e)))).1
    ·intro b hb
     obtain⟨o,e,_⟩:=T.obj _ _ st6 b hb
     exact(J.pin (b,o) (zut _ (zun _ (Vs hb e)))).2.1
   refine wpAny_mono (zir (X:=X) (sc:=sc) (xs:=xs) (js:=js) (tg:=tg) (g:=g) (elt:=elt) (ifs:=ifs) (tt:=tt) (te:=te) (D:=s2.heap.objs.size) (its:=its) (n:=k) (pl:=R8 fp s5'.heap)
    (hg _ _ _ _ _) I7 r6 (ht _ _ _ _ _) (he _ _ _ _ _) (by omega) (zus _) hDC (fun y c e=>zur (zo8 y c e)) zpb (step v H6 y6 o0 lo0)) (fun _ s6 h6=>?_) fun _ _ z=>z
   refine wpAny_mono h6 (fun ok s7 h7=>?_) fun _ _ z=>z
   cases ok with
   | false =>
    rw[if_neg zug] at h7 ⊢
    obtain⟨H7,o1,l1,⟨m',hm,w'⟩,J⟩:=h7
    exact back l1 J vs4 z4 hm w'
   | true =>
    rw[if_pos rfl] at h7 ⊢
    refine wpAny_mono h7 (fun y s8 h8=>?_) fun _ _ z=>z
    refine wpAny_mono h8 (fun _ s9 h9=>?_) fun _ _ z=>z
    obtain⟨z,y',H9,o1,l1,⟨m',hm,w'⟩,rz,J⟩:=h9
    refine back l1 J (vs4.append (.cons rz .nil)) ?_ hm w'
    rw[zuk,zuJ]
    omega
 exact codeAny_compStart_list (loop _ rfl) (T.self _ 0 _ _ _ (T.keep _ _ _ st2 fun b _ o e=>old b o e) (loop _ rfl))
end
section
variable {X:Cx}{sc ZK:Scope}{x:Str}{js:List Nat}{elt iter:Expr}{px pos:Pos}{ifs:List Expr}{wi:TI}{tt:TT}{te:TE}
theorem zgk {use:Option (Value->Sem Unit)}{QQ:Value->Shared->Prop}{Fin:List V->Hp->Prop}{pins:List (Addr×Obj)}{s:Shared}{σ:St}{H:Hp}(Vv:X.env.scope=ZK)(L:YL ZK sc x (js.map fun j=>X.N.getD j "")){rd:Cx->Prop}(hc:∀sc cl C N s H fp,rd (X.blk sc cl C N s H fp))(hi:PIr rd X (.Name x px) iter wi)(hjs:∀j∈js,j<X.N.length)
  (ht:∀(cl:List (Str×Addr)) (C:Addr) (s₂:Shared) (H₂:Hp) (fp:List Addr) (pins:List (Addr×Obj)) (s':Shared) (σ':St) (H':Hp) (Q:Bool->Hp->Prop),Inv (X.blk sc cl C (lcN X x js) s₂ H₂ fp) pins σ' H' s'->tt σ' H' Q ->
   wpAny (model X.prog X.w) X.A (Y8 ifs (compEnvC sc cl C X.env)) (TP (X.blk sc cl C (lcN X x js) s₂ H₂ fp) pins σ' Q) (fun _ _=>False) s')
  (he:∀(cl:List (Str×Addr)) (C:Addr) (s₂:Shared) (H₂:Hp) (fp:List Addr),PE (X.blk sc cl C (lcN X x js) s₂ H₂ fp) elt te)
  (hs:∀x,foldedSetIterable iter X.env x=pure x)(I:Inv X pins σ H s)
  (h:wi σ H fun J H1=>∃W:Nat->Nat->List V->Hp->Prop,(∃m,W 0 m [] H1)/\∀i m ys H,W i m ys H->(J.stop i H/\Fin ys H) \/
   (J.go i H/\ys.length<sizeLine/\∀x H',J.Jb i H x H'->tt (YM σ js (some x)) H' fun b H2 =>
    if b=true then te (YM σ js (some x)) H2 fun v H3=>∃m',m'<m/\W (i+1) m' (ys++[v]) H3 else ∃m',m'<m/\W (i+1) m' ys H2))
  (hfin:∀(D C:Addr) (s5:Shared) (H5:Hp) (ys:List V) (its:List Value) (k:Nat) (m5:Str->Option Value),Inv X pins σ H5 s5->Own X pins H5 D->Own X pins H5 C->D≠C->s5.heap.get? D=some (v7 its k)->Vals ys its->ys.length<=sizeLine->s5.heap.Ns C m5->Fin ys H5 ->
   compPost (model X.prog X.w) X.A X.xe use QQ (.ref D) C (.ok .next) s5) :
  wpAny (model X.prog X.w) X.A (comprehension (.ListComp elt [⟨.Name x px,iter,ifs,0⟩] sc pos) sc X.env (firstIterPos [⟨.Name x px,iter,ifs,0⟩] pos) (newList []) false (eval iter X.env) use) QQ X.xe s:=by
 have e:(fun(J:It) (H1:Hp)=>∃W:Nat->Nat->List V->Hp->Prop,(∃m,W 0 m [] H1)/\∀i m ys H,W i m ys H->(J.stop i H/\Fin ys H) \/
   (J.go i H/\ys.length<sizeLine/\∀x H',J.Jb i H x H'->tt (YM σ js (some x)) H' fun b H2 =>
    if b=true then te (YM σ js (some x)) H2 fun v H3=>∃m',m'<m/\W (i+1) m' (ys++[v]) H3 else ∃m',m'<m/\W (i+1) m' ys H2)) =
   (fun(J:It) (H1:Hp)=>∃W:Nat->Nat->List V->Hp->Prop,(∃m,W 0 m [] H1)/\∀i m ys H,W i m ys H->(J.stop i H/\Fin ys H) \/
   (J.go i H/\ys.length<sizeLine/\∀y H',J.Jb i H y H'->∀o0:List (Option V),o0.length=[x].length->Uu 0 y (lcT σ js o0) H' fun σ2 H1=>∃o1,σ2=lcT σ js o1/\o1.length=[x].length/\tt σ2 H1 fun b H2 =>
    if b=true then te σ2 H2 fun v H3=>∃m',m'<m/\W (i+1) m' (ys++[v]) H3 else ∃m',m'<m/\W (i+1) m' ys H2)):=by
  funext J H1
  refine propext ⟨fun⟨W,w0,w1⟩=>⟨W,w0,fun i m ys H hw=>?_⟩,fun⟨W,w0,w1⟩=>⟨W,w0,fun i m ys H hw=>?_⟩⟩
  ·rcases w1 i m ys H hw with a | ⟨a,b,c⟩
   ·exact .inl a
   ·refine .inr ⟨a,b,fun y H' hy o0 ho=>?_⟩
    match o0,ho with
    | [o],_=>exact⟨[some y],rfl,rfl,c y H' hy⟩
  ·rcases w1 i m ys H hw with a | ⟨a,b,c⟩
   ·exact .inl a
   ·refine .inr ⟨a,b,fun y H' hy=>?_⟩
    obtain⟨o1,e1,e2,e3⟩:=c y H' hy [none] rfl
    exact e3
 rw[e] at h
 exact zdD (xs:=[x]) (g:=Uu 0) Vv ⟨L.kind,L.Qc,L.names,L.fr,L.fvs⟩ hc hi (fun cl C s₂ H₂ fp=>yR (X:=X.blk sc cl C (Q6 X [x] js) s₂ H₂ fp) L.nd rfl (.inl (lookup_relabel_local L.hx)) (.inr (lookup_relabel_local L.hx))) hjs ht he hs I h hfin
theorem zjP (Vv:X.env.scope=ZK)(L:YL ZK sc x (js.map fun j=>X.N.getD j "")){rd:Cx->Prop}(hc:∀sc cl C N s H fp,rd (X.blk sc cl C N s H fp))(hi:PIr rd X (.Name x px) iter wi)(hjs:∀j∈js,j<X.N.length)
  (ht:∀(cl:List (Str×Addr)) (C:Addr) (s₂:Shared) (H₂:Hp) (fp:List Addr) (pins:List (Addr×Obj)) (s':Shared) (σ':St) (H':Hp) (Q:Bool->Hp->Prop),Inv (X.blk sc cl C (lcN X x js) s₂ H₂ fp) pins σ' H' s'->tt σ' H' Q ->
   wpAny (model X.prog X.w) X.A (Y8 ifs (compEnvC sc cl C X.env)) (TP (X.blk sc cl C (lcN X x js) s₂ H₂ fp) pins σ' Q) (fun _ _=>False) s')
  (he:∀(cl:List (Str×Addr)) (C:Addr) (s₂:Shared) (H₂:Hp) (fp:List Addr),PE (X.blk sc cl C (lcN X x js) s₂ H₂ fp) elt te)
  (hs:∀x,foldedSetIterable iter X.env x=pure x:=by intro _;rfl) :
  PE X (.ListComp elt [⟨.Name x px,iter,ifs,0⟩] sc pos) (tLC wi js tt te):=by
 intro pins s σ H Q I h
 rw[eval_ListComp]
 refine zgk (use:=none) (Fin:=fun ys H=>∀p,H p=none->Q (.ref p) (upd H p (.lst ys))) Vv L hc hi hjs ht he hs I h fun D C s5 H5 ys its k m5 J oD oC hDC p1 vs z hn fin=>?_
 refine⟨m5,hn,fun h' hsb=>?_⟩
 have J2:Inv X pins σ H5 { s5 with heap:=h',toks:=s5.toks }:=J.turned (it:=C) (fun b o hb e=>hsb.extBut b o hb e) oC.free oC.loc (.inr oC.new) oC.cel oC.pin
 have p1':h'.get? D=some (v7 its k):=hsb.extBut _ _ hDC p1
 have J3:Inv X pins σ (upd H5 D (.lst ys)) { s5 with heap:=h',toks:=s5.toks }:=J2.track oD.free oD.loc oD.new oD.cel oD.pin ⟨z,its,k,vs,p1'⟩
 exact⟨.ref D,_,J3,rfl,fin D oD.free⟩
theorem zlJ (Vv:X.env.scope=ZK)(L:YL ZK sc x (js.map fun j=>X.N.getD j ""))(hc:X.calm=true)(hi:PI X (.Name x px) iter wi)(hjs:∀j∈js,j<X.N.length)
  (ht:∀(cl:List (Str×Addr)) (C:Addr) (s₂:Shared) (H₂:Hp) (fp:List Addr) (pins:List (Addr×Obj)) (s':Shared) (σ':St) (H':Hp) (Q:Bool->Hp->Prop),Inv (X.blk sc cl C (lcN X x js) s₂ H₂ fp) pins σ' H' s'->tt σ' H' Q ->
   wpAny (model X.prog X.w) X.A (Y8 ifs (compEnvC sc cl C X.env)) (TP (X.blk sc cl C (lcN X x js) s₂ H₂ fp) pins σ' Q) (fun _ _=>False) s')
  (he:∀(cl:List (Str×Addr)) (C:Addr) (s₂:Shared) (H₂:Hp) (fp:List Addr),PE (X.blk sc cl C (lcN X x js) s₂ H₂ fp) elt te)
  (hs:∀x,foldedSetIterable iter X.env x=pure x:=by intro _;rfl) :
  PE X (.ListComp elt [⟨.Name x px,iter,ifs,0⟩] sc pos) (tLC wi js tt te) :=
 zjP Vv L (rd:=Calm) (fun _ _ _ _ _ _ _=>hc) hi hjs ht he hs
def sLC (i:Nat)(wi:TI)(js:List Nat)(tt:TT)(te:TE):TS:=fun D σ H=>tLC wi js tt te σ H fun v H1=>D.nx (σ.set i (some v)) H1
theorem U9 {i:Nat}{y:Str}{py spos:Pos}(hN:X.N.Nodup)(hy:X.N[i]?=some y)(hl:Loc X.env.scope y)(hf:X.fn y=true\/X.env.scope.names.lookup y=some .local)
  (Vv:X.env.scope=ZK)(L:YL ZK sc x (js.map fun j=>X.N.getD j ""))(hc:X.calm=true)(hi:PI X (.Name x px) iter wi)(hjs:∀j∈js,j<X.N.length)
  (ht:∀(cl:List (Str×Addr)) (C:Addr) (s₂:Shared) (H₂:Hp) (fp:List Addr) (pins:List (Addr×Obj)) (s':Shared) (σ':St) (H':Hp) (Q:Bool->Hp->Prop),Inv (X.blk sc cl C (lcN X x js) s₂ H₂ fp) pins σ' H' s'->tt σ' H' Q ->
   wpAny (model X.prog X.w) X.A (Y8 ifs (compEnvC sc cl C X.env)) (TP (X.blk sc cl C (lcN X x js) s₂ H₂ fp) pins σ' Q) (fun _ _=>False) s')
  (he:∀(cl:List (Str×Addr)) (C:Addr) (s₂:Shared) (H₂:Hp) (fp:List Addr),PE (X.blk sc cl C (lcN X x js) s₂ H₂ fp) elt te)
  (hsw:swapsWith (.ListComp elt [⟨.Name x px,iter,ifs,0⟩] sc pos) (some (.Name y py)) spos.line X.env=pure true)(hs:∀x,foldedSetIterable iter X.env x=pure x:=by intro _;rfl) :
  PS X (.Assign [.Name y py] (.ListComp elt [⟨.Name x px,iter,ifs,0⟩] sc pos) spos) (sLC i wi js tt te):=by
 intro pins s σ H D I h
 rw[exec_Assign_Name_used _ _ _ _ hsw]
 refine wpAny_bind (wpAny_standAt (wpAny_bind ?_))
 show wpAny _ _ (do let _ <-comprehension (.ListComp elt [⟨.Name x px,iter,ifs,0⟩] sc pos) sc X.env _ (newList []) false (eval iter X.env) (some (assign (.Name y py) X.env))) _ _ s
 have pg:=yR (X:=X) (i:=i) (x:=y) (pos:=py) hN hy hl hf
 refine wpAny_bind (wpAny_mono (zgk (use:=some (assign (.Name y py) X.env)) (QQ:=fun _ z=>SP X pins D .next z) (Fin:=fun ys H=>∀p,H p=none->D.nx (σ.set i (some (.ref p))) (upd H p (.lst ys))) Vv L (rd:=Calm) (fun _ _ _ _ _ _ _=>hc) hi hjs ht he hs I h fun A C s5 H5 ys its k m5 J oD oC hDC p1 vs z hn fin=>?_) (fun _ z hq=>wpAny_pure (wpAny_pure hq)) fun _ _ e=>e)
 have J1:Inv X pins σ (upd H5 A (.lst ys)) s5:=J.track oD.free oD.loc oD.new oD.cel oD.pin ⟨z,its,k,vs,p1⟩
 obtain⟨oc,es,ep,hC,hd,hr⟩:=hn
 have Qc:∀v,oc.data≠.cell v:=fun v q=>by rw[hd] at q;cases q
 have hCA:C≠A:=Ne.symm hDC
 have fC:(upd H5 A (.lst ys)) C=none:=by rw[zy hCA];exact oC.free
 have J2:Inv X (pins++[(C,oc)]) σ (upd H5 A (.lst ys)) s5:=J1.Vp fun p hp=>(List.mem_append.mp hp).elim (fun q=>J1.pin p (zut _ q)) fun q=>by
  have e:p=(C,oc):=by simpa using q
  subst e
  exact⟨hC,fC,oC.loc,oC.fs,Qc⟩
 refine wpAny_mono (pg _ s5 σ _ (.ref A) (.ref A) (fun σ6 H6=>σ6=σ.set i (some (.ref A))/\H6=upd H5 A (.lst ys)) J2 rfl ⟨rfl,rfl⟩) (fun _ s6 ⟨σ6,H6,I6,e1,e2⟩=>?_) fun _ _ e=>e
 subst e1 e2
 obtain⟨c1,c2,_⟩:=I6.pin (C,oc) (zut _ (zut _ (by simp)))
 refine⟨m5,⟨oc,es,ep,c1,hd,hr⟩,fun h' hsb=>?_⟩
 have J3:Inv X pins (σ.set i (some (.ref A))) (upd H5 A (.lst ys)) s6:=I6.Vp fun p hp=>I6.pin p (zut _ (List.mem_append_left _ hp))
 have J4:Inv X pins (σ.set i (some (.ref A))) (upd H5 A (.lst ys)) { s6 with heap:=h',toks:=s6.toks }:=J3.turned (it:=C) (fun b o hb e=>hsb.extBut b o hb e) c2 oC.loc (.inr oC.new) oC.cel oC.pin
 exact⟨_,_,J4,fin A oD.free⟩
end
section
variable {X:Cx}
def Qd:TT:=fun _ H Q=>Q true H
theorem tL {sc ZK:Scope}{x:Str}{js:List Nat}{elt iter:Expr}{px pos:Pos}{wi:TI}{te:TE}(Vv:X.env.scope=ZK)(L:YL ZK sc x (js.map fun j=>X.N.getD j ""))(hc:X.calm=true)(hi:PI X (.Name x px) iter wi)(hjs:∀j∈js,j<X.N.length)
  (he:∀(cl:List (Str×Addr)) (C:Addr) (s₂:Shared) (H₂:Hp) (fp:List Addr),PE (X.blk sc cl C (lcN X x js) s₂ H₂ fp) elt te)
  (hs:∀x,foldedSetIterable iter X.env x=pure x:=by intro _;rfl) :
  PE X (.ListComp elt [⟨.Name x px,iter,[],0⟩] sc pos) (tLC wi js Qd te) :=
 zlJ Vv L hc hi hjs (fun cl C s₂ H₂ fp pins s' σ' H' Q I h=>wpAny_pure ⟨H',I,h⟩) he hs
theorem Q7 {K:Frag}{a:Addr}{xs:List V}{σ:St}{js:List Nat}{tt:TT}{te:TE}{H:Hp}{Qf:Addr->Hp->List V->Prop}(Pv:Nat->List V->Hp->Prop)(h0:Pv 0 [] H)(hz:xs.length<=sizeLine)
  (hl:∀i ys H,i<=xs.length->Pv i ys H->zT K H a xs/\ys.length<=i)
  (hs:∀i x ys H,xs[i]?=some x->Pv i ys H->tt (YM σ js (some x)) H fun b H2=>if b=true then te (YM σ js (some x)) H2 fun v H3=>Pv (i+1) (ys++[v]) H3 else Pv (i+1) ys H2)
  (mt:∀ σ H Q Q',(∀b H1,Q b H1->Q' b H1)->tt σ H Q->tt σ H Q')(me:∀ σ H Q Q',(∀v H1,Q v H1->Q' v H1)->te σ H Q->te σ H Q')
  (hd:∀ys H p,Pv xs.length ys H->H p=none->Qf p H ys) :
  ∃W:Nat->Nat->List V->Hp->Prop,(∃m,W 0 m [] H)/\∀i m ys H,W i m ys H ->
   ((Itl K a).stop i H/\∀p,H p=none->Qf p H ys) \/
   ((Itl K a).go i H/\ys.length<sizeLine/\∀x H',(Itl K a).Jb i H x H'->tt (YM σ js (some x)) H' fun b H2 =>
    if b=true then te (YM σ js (some x)) H2 fun v H3=>∃m',m'<m/\W (i+1) m' (ys++[v]) H3 else ∃m',m'<m/\W (i+1) m' ys H2):=by
 refine⟨fun i m ys H=>m=xs.length-i/\i<=xs.length/\Pv i ys H,⟨xs.length,by simp,zuy _,h0⟩,?_⟩
 rintro i m ys H ⟨rfl,hi,p⟩
 obtain⟨q,hy⟩:=hl i ys H hi p
 by_cases hlt:i<xs.length
 ·refine .inr ⟨⟨xs,xs[i],q,by simp[hlt]⟩,by omega,fun x H' y=>?_⟩
  obtain⟨e,y⟩:=y
  subst e
  refine mt _ _ _ _ (fun b H2 h2=>?_) (hs i x ys _ (y xs q) p)
  cases b with
  | true =>
   rw[if_pos rfl] at h2 ⊢
   exact me _ _ _ _ (fun v H3 h3=>⟨_,by omega,rfl,hlt,h3⟩) h2
  | false =>
   rw[if_neg zug] at h2 ⊢
   exact⟨_,by omega,rfl,hlt,h2⟩
 ·have e:i=xs.length:=by omega
  subst e
  exact .inl ⟨⟨xs,q,zus _⟩,fun pp hp=>hd ys H pp p hp⟩
theorem zis {K:Frag}{a:Addr}{xs:List V}{σ:St}{js:List Nat}{tt:TT}{te:TE}{H:Hp}{Qf:Addr->Hp->List V->Prop}(Pv:Nat->List V->Hp->Prop)(h0:Pv 0 [] H)(hz:xs.length<=sizeLine)
  (hl:∀i ys H,i<=xs.length->Pv i ys H->wK K H a xs/\ys.length<=i)
  (hs:∀i x ys H,xs[i]?=some x->Pv i ys H->tt (YM σ js (some x)) H fun b H2=>if b=true then te (YM σ js (some x)) H2 fun v H3=>Pv (i+1) (ys++[v]) H3 else Pv (i+1) ys H2)
  (mt:∀ σ H Q Q',(∀b H1,Q b H1->Q' b H1)->tt σ H Q->tt σ H Q')(me:∀ σ H Q Q',(∀v H1,Q v H1->Q' v H1)->te σ H Q->te σ H Q')
  (hd:∀ys H p,Pv xs.length ys H->H p=none->Qf p H ys) :
  ∃W:Nat->Nat->List V->Hp->Prop,(∃m,W 0 m [] H)/\∀i m ys H,W i m ys H ->
   ((Itt K a).stop i H/\∀p,H p=none->Qf p H ys) \/
   ((Itt K a).go i H/\ys.length<sizeLine/\∀x H',(Itt K a).Jb i H x H'->tt (YM σ js (some x)) H' fun b H2 =>
    if b=true then te (YM σ js (some x)) H2 fun v H3=>∃m',m'<m/\W (i+1) m' (ys++[v]) H3 else ∃m',m'<m/\W (i+1) m' ys H2):=by
 refine⟨fun i m ys H=>m=xs.length-i/\i<=xs.length/\Pv i ys H,⟨xs.length,by simp,zuy _,h0⟩,?_⟩
 rintro i m ys H ⟨rfl,hi,p⟩
 obtain⟨q,hy⟩:=hl i ys H hi p
 by_cases hlt:i<xs.length
 ·refine .inr ⟨⟨xs,xs[i],q,by simp[hlt]⟩,by omega,fun x H' y=>?_⟩
  obtain⟨e,y⟩:=y
  subst e
  refine mt _ _ _ _ (fun b H2 h2=>?_) (hs i x ys _ (y xs q) p)
  cases b with
  | true =>
   rw[if_pos rfl] at h2 ⊢
   exact me _ _ _ _ (fun v H3 h3=>⟨_,by omega,rfl,hlt,h3⟩) h2
  | false =>
   rw[if_neg zug] at h2 ⊢
   exact⟨_,by omega,rfl,hlt,h2⟩
 ·have e:i=xs.length:=by omega
  subst e
  exact .inl ⟨⟨xs,q,zus _⟩,fun pp hp=>hd ys H pp p hp⟩
theorem zit {lo:Int}{n:Nat}{σ:St}{js:List Nat}{tt:TT}{te:TE}{H:Hp}{Qf:Addr->Hp->List V->Prop}(Pv:Nat->List V->Hp->Prop)(h0:Pv 0 [] H)(hz:n<=sizeLine)
  (hl:∀i ys H,i<=n->Pv i ys H->ys.length<=i)
  (hs:∀i ys H,i<n->Pv i ys H->tt (YM σ js (some (.int (lo+i)))) H fun b H2=>if b=true then te (YM σ js (some (.int (lo+i)))) H2 fun v H3=>Pv (i+1) (ys++[v]) H3 else Pv (i+1) ys H2)
  (mt:∀ σ H Q Q',(∀b H1,Q b H1->Q' b H1)->tt σ H Q->tt σ H Q')(me:∀ σ H Q Q',(∀v H1,Q v H1->Q' v H1)->te σ H Q->te σ H Q')
  (hd:∀ys H p,Pv n ys H->H p=none->Qf p H ys) :
  ∃W:Nat->Nat->List V->Hp->Prop,(∃m,W 0 m [] H)/\∀i m ys H,W i m ys H ->
   ((Itr lo n).stop i H/\∀p,H p=none->Qf p H ys) \/
   ((Itr lo n).go i H/\ys.length<sizeLine/\∀x H',(Itr lo n).Jb i H x H'->tt (YM σ js (some x)) H' fun b H2 =>
    if b=true then te (YM σ js (some x)) H2 fun v H3=>∃m',m'<m/\W (i+1) m' (ys++[v]) H3 else ∃m',m'<m/\W (i+1) m' ys H2):=by
 refine⟨fun i m ys H=>m=n-i/\i<=n/\Pv i ys H,⟨n,by simp,zuy _,h0⟩,?_⟩
 rintro i m ys H ⟨rfl,hi,p⟩
 have hy:=hl i ys H hi p
 by_cases hlt:i<n
 ·refine .inr ⟨hlt,by omega,fun x H' y=>?_⟩
  obtain⟨e,y⟩:=y
  subst e y
  refine mt _ _ _ _ (fun b H2 h2=>?_) (hs i ys _ hlt p)
  cases b with
  | true =>
   rw[if_pos rfl] at h2 ⊢
   exact me _ _ _ _ (fun v H3 h3=>⟨_,by omega,rfl,hlt,h3⟩) h2
  | false =>
   rw[if_neg zug] at h2 ⊢
   exact⟨_,by omega,rfl,hlt,h2⟩
 ·have e:i=n:=by omega
  subst e
  exact .inl ⟨zus _,fun pp hp=>hd ys H pp p hp⟩
theorem JX {x:V}:∀{xs:List V} {us:List Value},Vals xs us->xs.all vP=true->∀{j:Nat},xs.findIdx? (fun y=>eqV y x)=some j ->
  ∃hj:j<us.length,eqU x us[j]=true/\∀m (hm:m<us.length),m<j->eqU x us[m]=false
 | _,_,.nil,_,j,h=>by simp at h
 | y::xs,u::us,.cons r t,f,j,h=>by
  rw[List.all_cons,zuD] at f
  rw[List.findIdx?_cons] at h
  by_cases hy:eqV y x=true
  ·rw[if_pos hy] at h
   cases h
   refine⟨by simp,?_,fun m hm hlt=>absurd hlt (Nat.not_lt_zero _)⟩
   show eqU x u=true
   rw[zcE r f.1];exact hy
  ·rw[if_neg hy] at h
   cases hq:xs.findIdx? (fun y=>eqV y x) with
   | none=>rw[hq] at h;cases h
   | some k =>
    rw[hq] at h
    have e:k+1=j:=zuG h
    subst e
    obtain⟨hk,h1,h2⟩:=JX t f.2 hq
    refine⟨by rw[zuo];omega,h1,fun m hm hlt=>?_⟩
    cases m with
    | zero =>
     show eqU x u=false
     rw[zcE r f.1];exact Bool.eq_false_iff.mpr hy
    | succ m=>exact h2 m (by rw[zuo] at hm;omega) (by omega)
def zlK (K:Frag):V->List V->Hp->VK->Prop:=fun x vs H Q=>∃l xs y j,x=.ref l/\vs=[y]/\zT K H l xs/\vP y=true/\xs.all vP=true/\xs.findIdx? (fun z=>eqV z y)=some j/\Q (.int (j:Nat)) H
theorem Q8:MtM X "list.index" (zlK X.K):=by
 intro pins s σ H x vs v us Q I rx rv h
 obtain⟨l,xs,y,j,rfl,rfl,hq,fy,fs,hj,q⟩:=h
 cases rx
 obtain⟨u,rfl,ru⟩:=rv.one
 obtain⟨its,r,⟨o,n,e,hc,hd,hdat⟩,hz⟩:=I.list hq
 obtain⟨cls,dd,dt,sl⟩:=o
 have hc':cls=.type "list" := hc
 have hdat':dt=.seq its.toArray n:=hdat
 subst hc' hdat'
 obtain⟨h1,h2,h3⟩:=JX r fs hj
 have hl:=r.length
 have hn:=U7
 refine call_meets F.slot_list_index ⟨_,e,rfl⟩ F.entry_list_index (F.args_list_index_2 _ _) (SeqAt.list_indexAt l its.toArray n dd sl u (eqU y) j (by simpa using h1) (by omega) (by simpa using h2) (fun m hm hlt=>by simpa using h3 m (by simpa using hm) hlt)) ⟨e,fun w hw=>W7 ru fy r fs w (by simpa using hw),?_⟩
 exact⟨.int (j:Nat),H,I.tok _,⟨_,rfl⟩,q⟩
def zjQ:V->List V->Hp->VK->Prop:=fun x vs H Q=>∃l xs i y,x=.ref l/\vs=[.int i,y]/\H l=some (.lst xs)/\0<=i/\i<=(xs.length:Int)/\xs.length<sizeLine/\Q .non (upd H l (.lst (xs.take i.toNat++y::xs.drop i.toNat)))
theorem ze8 {A:Around}{s:Shared}{P:Program}{w:World}{E:Value->Shared->Prop}{Q:Value->Shared->Prop}{l:Addr}{its:List Value}{n:Nat}{i:Int}{t:Tok}{u:Value}(e:s.heap.get? l=some { cls:=.type "list", data:=.seq its.toArray n })(h0:0<=i)(h1:i<=(its.length:Int))(hz:its.length<=sizeLine)
  (h:∀f:Array Value->Array Value,f its.toArray=(its.take i.toNat++u::its.drop i.toNat).toArray->Q .none { s with heap:=s.heap.update l (Obj.mapSeq f),toks:=s.toks }):wpAny (model P w) A (call (.builtin "list.insert") [.ref l,.int i t,u]) Q E s:=by
 have hn:=U7
 have fit:¬(!Builtin.List.listFitsIndex i)=true:=by
  rw[fitsIndex_both (k:=i) (Int.le_trans (by decide) h0) (by omega)]
  exact zug
 have hs3:its.toArray.size<=sizeLine:=by rw[zum];exact hz
 have M:=AutoSeq1.list_insert_list_int_val_1 l its.toArray n i t u fit hs3
 refine call_meets F.slot_list_insert ⟨_,e,rfl⟩ F.entry_list_insert (F.args_list_insert_3 _ _ _) M ⟨e,?_⟩
 refine h _ ?_
 have hk:(if i<0 then (i+(its.toArray.size:Int)).toNat else min i.toNat its.toArray.size)=i.toNat:=by
  rw[if_neg (by omega),zum]
  omega
 show(its.toArray.extract 0 (if i<0 then (i+(its.toArray.size:Int)).toNat else min i.toNat its.toArray.size)).push u++its.toArray.extract (if i<0 then (i+(its.toArray.size:Int)).toNat else min i.toNat its.toArray.size)=_
 rw[hk]
 apply Array.toList_inj.mp
 simp[List.take_of_length_le]
theorem zg8:MtM X "list.insert" zjQ:=by
 intro pins s σ H x vs v us Q I rx rv h
 obtain⟨l,xs,i,y,rfl,rfl,hH,h0,h1,hz,q⟩:=h
 cases rx
 obtain⟨u,w,rfl,⟨t,rfl⟩,rw'⟩:=rv.two
 obtain⟨z,its,n,r,hl,e⟩:=I.zg4 hH
 refine ze8 e h0 (by rw[<-hl];exact h1) (by omega) fun f hf=>?_
 refine⟨.non,_,I.zim (its':=its.take i.toNat++w::its.drop i.toNat) hH e hf ((r.take i.toNat).append (.cons rw' (r.drop i.toNat))) ?_,rfl,q⟩
 rw[zuk,zuo,zuz,List.length_drop]
 omega
def ziu (K:Frag):V->List V->Hp->VK->Prop:=fun x vs H Q=>∃l b xs zs,x=.ref l/\vs=[.ref b]/\H l=some (.lst xs)/\wK K H b zs/\xs.length+zs.length<=sizeLine/\Q .non (upd H l (.lst (xs++zs)))
theorem N6 (l:Addr)(its:Array Value)(n:Nat)(b:Addr)(its2:Array Value)(n2:Nat)(dd:Option Addr)(sl:Array (Option Value))(h0:¬(!its.isEmpty&&Builtin.List.listTooLong (its.size+its2.size))=true)(h1:its.size<=sizeLine)(h2:its.size+its2.size<=sizeLine+1) :
  Meets (Builtin.«list.extend» ⟨[.ref l,.ref b],[]⟩) (fun _ R s=>s.heap.get? l=some { cls:=.type "list", data:=.seq its n }/\s.heap.get? b=some { cls:=.type "tuple", dict:=dd,data:=.seq its2 n2,slots:=sl } /\
   R (.ok (.ret Value.none)) { s with heap:=s.heap.update l (Obj.mapSeq fun x=>x++its2),toks:=s.toks }) :=
 .of_wp fun prog w A R s h=>by
  obtain⟨hp,g,d,tk,os⟩:=s
  obtain⟨hl,hb,h⟩:=h
  have g1:=AutoSeq1.idx_int
  have g2:=AutoSeq1.sub_tuple_tuple
  have g3:=AutoSeq1.sub_list_list
  have g4:=AutoSeq1.sub_tuple_list
  have g5:=AutoSeq1.sub_list_tuple
  have hz:(its++its2).size<=sizeLine+1:=by rw[Array.size_append];exact h2
  wp_walk using (wpAny_updateSeq hl rfl (hz:=h1) (_hz':=hz)),AutoSeq1.wpAny_loadPart' hl,AutoSeq1.wpAny_loadPart' hb
  exact⟨_,rfl,h⟩
theorem JZ:MtM X "list.extend" (ziu X.K):=by
 intro pins s σ H x vs v us Q I rx rv h
 obtain⟨l,b,xs,zs,rfl,rfl,hH,hB,hz,q⟩:=h
 cases rx
 obtain⟨u,rfl,ru⟩:=rv.one
 cases ru
 obtain⟨z,its,n,r,hl,e⟩:=I.zg4 hH
 obtain⟨its2,r2,⟨o,e2,hc,n2,hd⟩,z2⟩:=I.tuple hB
 obtain⟨cls,dd,dt,sl⟩:=o
 have hc':cls=.type "tuple" := hc
 have hd':dt=.seq its2.toArray n2:=hd
 subst hc' hd'
 have hl2:=r2.length
 have hsz:its.toArray.size+its2.toArray.size<=sizeLine:=by rw[zum,zum];omega
 have zin:¬(!its.toArray.isEmpty&&Builtin.List.listTooLong (its.toArray.size+its2.toArray.size))=true:=by
  rw[zdB hsz,Bool.and_false]
  exact zug
 refine call_meets F.slot_list_extend ⟨_,e,rfl⟩ F.entry_list_extend (F.args_list_extend_2 _ _)
  (N6 l its.toArray n b its2.toArray n2 dd sl zin (by rw[zum];omega) (by omega)) ⟨e,e2,?_⟩
 refine⟨.non,_,I.zim (its':=its++its2) hH e (by simp) (r.append r2) ?_,rfl,q⟩
 rw[zuk]
 omega
theorem zbn (bs:List Bool):((List.range bs.length).all fun i=>(bs[i]?).getD true)=bs.all id:=by
 rw[zuR,zuF,zuF]
 constructor
 ·intro h b hb
  obtain⟨i,hi,e⟩:=zuS hb
  have q:=h i (List.mem_range.mpr hi)
  rw[zud hi,Option.getD_some,e] at q
  exact q
 ·intro h i hi
  have hi':=List.mem_range.mp hi
  rw[zud hi',Option.getD_some]
  exact h _ (List.getElem_mem hi')
theorem YB (hc:X.calm=true):Wc X (.builtin "all") (fun xs H Q=>∃(p:Addr) (bs:List Bool),xs=[.ref p]/\zT X.K H p (bs.map V.bl)/\Q (.bl (bs.all id)) H):=by
 intro pins s σ H xs us Q I r h
 obtain⟨p,bs,rfl,hq,q⟩:=h
 obtain⟨u,rfl,rx⟩:=vals1 r
 cases rx
 obtain⟨its,r',pl,hz⟩:=I.list hq
 have hlen:bs.length=its.length:=by have:=r'.length;rw[zuc] at this;exact this
 have hlt:p<s.heap.objs.size:=by obtain⟨_,e,_⟩:=pl.isList;exact zuj e
 refine call_all_walk (wpAny_pyIter_list pl.isList ?_)
 refine⟨s.heap.objs.size,[s.heap.objs.size,p],[s.heap.objs.size],its.toArray.size,_,_,fun i=>(bs[i]?).getD true,rfl,Walks.list (A:=X.A.in1) (I.ok.hd hc) _ p (zur hlt) its.toArray,
  ⟨⟨_,zuw _ rfl,rfl,rfl⟩,pl.isList.push _⟩,fun i v s' Q' E' hP hQ=>?_,fun h' tk hk=>?_⟩
 ·have hP':its[i]?=some v:=by simpa using hP
  have hi:i<bs.length:=by
   have:=(zuf.mp hP').1
   omega
  obtain⟨w,hw,rw'⟩:=r'.get (i:=i) (x:=.bl bs[i]) (by rw[zue,zud hi];rfl)
  rw[hP'] at hw
  cases hw
  cases rw'
  simp only[zud hi,Option.getD_some] at hQ
  exact wpAny_truthy_bool hQ
 ·have kp:∀b o,s.heap.get? b=some o->h'.get? b=some o:=fun b o e=>hk b o (fun hm=>by
   rw[List.mem_singleton.mp hm] at e
   exact Nat.lt_irrefl _ (zuj e)) (zui _ e)
  refine⟨.bl _,H,I.kept kp,rfl,?_⟩
  rw[zum,<-hlen,zbn]
  exact q
theorem J0 (hc:X.calm=true):Wc X (.builtin "sum") (fun xs H Q=>∃(p:Addr) (ns:List Int),xs=[.ref p]/\zT X.K H p (ns.map V.int)/\Q (.int ns.sum) H):=by
 intro pins s σ H xs us Q I r h
 obtain⟨p,ns,rfl,hq,q⟩:=h
 obtain⟨u,rfl,rx⟩:=vals1 r
 cases rx
 obtain⟨its,r',pl,hz⟩:=I.list hq
 have hi:IntsAre its ns:=intsAre_of r'
 obtain⟨zs,hx⟩:=hi.allInts.items
 have hl':s.heap.IsList p (intItems zs):=hx ▸ pl.isList
 refine sum_intListG (I.ok.hd hc) hl' fun h' tk t' hk=>?_
 have e1:ns=zs.toList.map (·.1):=by
  rw[<-nums_intItems,<-hx]
  exact(show numsOf its.toArray.toList=ns from hi.numsOf).symm
 have e2:preSum (numAt zs) zs.size=ns.sum:=by
  rw[preSum_eq,List.take_of_length_le (by simp),e1]
 rw[e2]
 exact⟨.int ns.sum,H,I.kept hk,⟨_,rfl⟩,q⟩
theorem Km:Wc X (.builtin "isinstance") (fun xs H Q=>∃x T t b,xs=[x,.ty T]/\QT X.K H x t/\PySem.W.kitOne X.K t (.type T)=some b/\Q (.bl b) H):=by
 intro pins s σ H xs us Q I r h
 obtain⟨x,T,t,b,rfl,ty,e,q⟩:=h
 obtain⟨u,w',rfl,rx,ry⟩:=vals2 r
 cases ry
 exact zg0 I rx ty e fun tk=>⟨.bl b,H,I.tok _,rfl,q⟩
end
def met (acc:List Str)(x:Str):List Str:=if acc.any (·==x) then acc else acc++[x]
def dd (xs:List Str):List Str:=xs.foldl met []
theorem zgl (xs:List Str)(x:Str):dd (xs++[x])=met (dd xs) x:=by
 unfold dd
 rw[List.foldl_append]
 rfl
theorem Jo (acc:List Str)(x k:Str):(met acc x).any (·==k)=(acc.any (·==k)||decide (k=x)):=by
 unfold met
 by_cases h:acc.any (·==x)=true
 ·rw[if_pos h]
  by_cases e:k=x
  ·subst e;rw[h];simp
  ·simp[e]
 ·rw[if_neg h,List.any_append]
  by_cases e:k=x
  ·subst e;simp
  ·have hb:(x==k)=false:=by simpa [beq_iff_eq] using (fun z:x=k=>e z.symm)
   simp[hb,e]
theorem Wf (acc:List Str)(x:Str):(met acc x).length=if acc.any (·==x)=true then acc.length else acc.length+1:=by
 unfold met
 split<;>simp
theorem zna (xs:List Str):(dd xs).length<=xs.length:=by
 suffices h:∀acc:List Str,(xs.foldl met acc).length<=acc.length+xs.length by have:=h [];unfold dd;simpa using this
 induction xs with
 | nil=>intro acc;simp
 | cons x r ih =>
  intro acc
  rw[List.foldl_cons]
  have h1:=ih (met acc x)
  have h2:=Wf acc x
  rw[zuo]
  split at h2<;>omega
theorem ziv {xs:List Str}(h:xs.Nodup):(dd xs).length=xs.length:=by
 suffices g:∀acc:List Str,(∀x∈xs,acc.any (·==x)=false)->(xs.foldl met acc).length=acc.length+xs.length by have:=g [] (fun _ _=>rfl);unfold dd;simpa using this
 induction xs with
 | nil=>intro acc _;simp
 | cons x r ih =>
  intro acc ha
  obtain⟨hx,hr⟩:=List.nodup_cons.mp h
  rw[List.foldl_cons,ih hr (met acc x) (fun y hy=>?_),Wf,ha x zuv]
  ·simp;omega
  ·rw[Jo,ha y (zun _ hy)]
   have:y≠x:=fun e=>hx (e ▸ hy)
   simp[this]
theorem zlL {xs:List Str}(h:¬xs.Nodup):(dd xs).length<xs.length:=by
 suffices g:∀acc:List Str,¬xs.Nodup->(xs.foldl met acc).length<acc.length+xs.length by have:=g [] h;unfold dd;simpa using this
 clear h
 have le:∀(ys acc:List Str),(ys.foldl met acc).length<=acc.length+ys.length:=fun ys=>by
  induction ys with
  | nil=>intro acc;simp
  | cons x r ih =>
   intro acc
   rw[List.foldl_cons]
   have h1:=ih (met acc x)
   have h2:=Wf acc x
   rw[zuo]
   split at h2<;>omega
 have mem:∀(ys acc:List Str) (x:Str),x∈ys->acc.any (·==x)=true->(ys.foldl met acc).length<acc.length+ys.length:=fun ys=>by
  induction ys with
  | nil=>intro acc x hx _;cases hx
  | cons y r ih =>
   intro acc x hx ha
   rw[List.foldl_cons,zuo]
   rcases List.mem_cons.mp hx with e | hx
   ·subst e
    have h1:=le r (met acc x)
    have h2:=Wf acc x
    rw[if_pos ha] at h2
    omega
   ·have h1:=ih (met acc y) x hx (by rw[Jo,ha];rfl)
    have h2:=Wf acc y
    split at h2<;>omega
 induction xs with
 | nil=>intro acc h;exact absurd List.nodup_nil h
 | cons x r ih =>
  intro acc h
  rw[List.foldl_cons,zuo]
  by_cases hx:x∈r
  ·have h1:=mem r (met acc x) x hx (by rw[Jo];simp)
   have h2:=Wf acc x
   split at h2<;>omega
  ·have h1:=ih (met acc x) (fun hr=>h (List.nodup_cons.mpr ⟨hx,hr⟩))
   have h2:=Wf acc x
   split at h2<;>omega
abbrev J5 (led:Bool):Obj:={ cls:=.type "set", dict:=none,data:=.set #[] 0 (.fresh 0 0 led) }
section
variable {P:Program}{w:World}{A:Around}{R:Result->Shared->Prop}{E:Value->Shared->Prop}{s:Shared}
theorem ziw {I:Addr}{fp wr:List Addr}{G:Array GenState->Array GenState->Prop}{n:Nat}{Pv:Nat->Value->Prop}{St:Nat->Shared->Prop}(W:WalksS P w A.in1 I fp wr G n Pv St)(S:Addr)(hS:S∉fp)(xs:List Str)(hn:xs.length=n)
  (hv:∀i v,Pv i v->∃t,v=.str (xs.getD i "") t)(hb:n+1<scanBound) :
  ∀(k i:Nat) (z:Shared),n-i=k->i<=n->St i z->z.heap.SetOf (strKind P w) S (fun q=>(dd (xs.take i)).any (·==q)) (dd (xs.take i)).length ->
   (∀z',Moved (S::wr) G z z'->z'.heap.SetOf (strKind P w) S (fun q=>(dd xs).any (·==q)) (dd xs).length->R (.ok (.ret .none)) z') ->
   codeAny (model P w) A (.builtin "set.update.loop" ⟨[.ref S,.ref I],[]⟩) R z:=by
 have znb:S∉wr:=fun h=>hS (W.sub _ h)
 have more:∀b∈wr,b∈S::wr:=fun b h=>zun _ h
 intro k
 induction k with
 | zero =>
  intro i z hk hi st zg9 fin
  have ei:i=n:=by omega
  subst ei
  refine codeAny_builtin PyProof.Rows.F.entry_set_update_loop ?_
  rw[Around.under_plainId PyProof.Rows.F.plain_set_update_loop _]
  show wpAny _ A.in1 (pyNext (.ref I)>>=_) _ _ z
  refine wpAny_bind (W.done z _ _ st fun z' mv=>?_)
  show wpAny _ A.in1 (ret Value.none) _ _ z'
  refine wpAny_pure (fin z' (mv.mono more) ?_)
  rw[<-hn,zuE] at zg9
  obtain⟨o,es,ep,t,ho,more'⟩:=zg9
  exact⟨o,es,ep,t,mv.heap S _ znb ho,more'⟩
 | succ k ih =>
  intro i z hk hi st zg9 fin
  have il:i<n:=by omega
  refine codeAny_builtin PyProof.Rows.F.entry_set_update_loop ?_
  rw[Around.under_plainId PyProof.Rows.F.plain_set_update_loop _]
  show wpAny _ A.in1 (pyNext (.ref I)>>=_) _ _ z
  refine wpAny_bind (W.item i z _ _ il st fun v z' pv st' mv=>?_)
  obtain⟨t,rfl⟩:=hv i v pv
  have hset':z'.heap.SetOf (strKind P w) S (fun q=>(dd (xs.take i)).any (·==q)) (dd (xs.take i)).length:=by
   obtain⟨o,es,ep,tb,ho,more'⟩:=zg9
   exact⟨o,es,ep,tb,mv.heap S _ znb ho,more'⟩
  show wpAny _ A.in1 (holding [Value.str (xs.getD i "") t] (setAdd S (.str (xs.getD i "") t))>>=_) _ _ z'
  refine wpAny_bind (wpAny_holding ?_)
  unfold setAdd
  refine wpAny_holding ?_
  refine wpAny_bind ((strKind P w).pyHash (k:=xs.getD i "") (strKind_is _ _ _ _) ?_)
  have hroom:(dd (xs.take i)).length+1<scanBound:=by
   have:=zna (xs.take i)
   rw[zuz] at this
   omega
  have et:xs.take (i+1)=xs.take i++[xs.getD i ""]:=by
   rw[List.take_succ,zup,zud (by omega)]
   rfl
  refine wpAny_setAddHashed_of (knd:=strKind P w) (s:={ z' with toks:=z'.toks+1 }) (strKind_is _ _ _ _) rfl hset' hroom fun h' sb s2=>?_
  have znc:h'.SetOf (strKind P w) S (fun q=>(dd (xs.take (i+1))).any (·==q)) (dd (xs.take (i+1))).length :=
   SetOf_congr s2 (fun q=>by rw[et,zgl,Jo]) (by rw[et,zgl,Wf])
  refine wpAny_pure ⟨plainId_quiet PyProof.Rows.F.plain_set_update_loop _,ih (i+1) _ (by omega) il (W.frame _ z' _ _ st' (Nat.le_succ _) fun b hb' o e=>?_) znc fun z'' mv2 s3=>?_⟩
  ·rw[sb.2 b (fun h:b=S=>hS (by rw[<-h];exact hb'))];exact e
  ·refine fin z'' (Moved.trans W.gtrans ((mv.mono more).then_heap (Nat.le_succ _) fun b o hb' e=>?_) mv2) s3
   rw[sb.2 b (fun h:b=S=>hb' (by rw[h];exact zuv))];exact e
theorem zjR {xs:List Str}:∀{us:List Value},Vals (xs.map V.str) us->∀(i:Nat) (v:Value),us[i]?=some v->∃t,v=.str (xs.getD i "") t:=by
 intro us r i v h
 have hl:=r.length
 rw[zuc] at hl
 have hi:i<xs.length:=by have:=(zuf.mp h).1;omega
 obtain⟨u,hu,t,e⟩:=r.get (i:=i) (x:=.str xs[i]) (by rw[zue,zud hi];rfl)
 rw[h] at hu
 cases hu
 refine⟨t,?_⟩
 rw[e,zup,zud hi]
 rfl
set_option maxHeartbeats 8000000 in
theorem zix {l:Addr}{us:List Value}{xs:List Str}{Q:Value->Shared->Prop}(hh:A.handled=none)(hl:s.heap.IsList l us.toArray)(r:Vals (xs.map V.str) us)(hb:xs.length+1<scanBound)
  (h:∀(h':Heap) (tk:Nat),h'.SetOf (strKind P w) s.heap.objs.size (fun q=>(dd xs).any (·==q)) (dd xs).length->(∀b o,s.heap.get? b=some o->h'.get? b=some o)->Q (.ref s.heap.objs.size) { s with heap:=h',toks:=tk }) :
  wpAny (model P w) A (call (.type "set") [.ref l]) Q E s:=by
 have hlen:xs.length=us.toArray.size:=by have:=r.length;rw[zuc] at this;simpa using this
 obtain⟨cc,tl,hmro⟩:=F.called_set.mro
 have made:=F.called_set.made
 have sub:=F.called_set.sub
 refine wpAny_call (codeAny_of_tree ?_)
 show wpAny _ _ (callAny (.type "set") _) _ _ _
 refine wpAny_pure ⟨Code.quiet_builtin _ (by decide +kernel),codeAny_builtin F.entry_type_call ?_⟩
 rw[Around.under_plain (weight_type_call_type "set" [.ref l] []) rfl]
 have a1:=F.called_set.notType
 have a2:=F.called_set.canCreate
 have a3:=F.typeCall_set_1 (.ref l)
 repeat (any_goals (first | assumption | wp_step))
 refine codeAny_mono (code_set_new_1 (.ref l) (E:=E) (Q₁:=fun ob z=>∃led:Bool,ob=.ref s.heap.objs.size/\z={ s with heap:=s.heap.push { cls:=.type "set", dict:=none,data:=.set #[] 0 (.fresh 0 0 led) } }) fun led=>⟨led,rfl,rfl⟩) fun res z hres=>?_
 cases res with
 | error e=>exact hres
 | ok fl =>
  cases fl with
  | ret ob =>
   obtain⟨led,rfl,rfl⟩:=hres
   have gS:(s.heap.push (J5 led)).get? s.heap.objs.size=some (J5 led):=zuw _ rfl
   have tS:Shared.TypeIs { s with heap:=s.heap.push (J5 led) } (.ref s.heap.objs.size) "set" := ⟨_,gS,rfl⟩
   have b1:=F.called_set.init.lookup
   have b2:=F.called_set.init.bind (.ref s.heap.objs.size)
   repeat (any_goals (first | assumption | wp_step))
   refine codeAny_mono (codeAny_call_builtin (R:=wants (fun v z=>v=.none/\∃h' tk,z={ s with heap:=h',toks:=tk }/\h'.SetOf (strKind P w) s.heap.objs.size (fun q=>(dd xs).any (·==q)) (dd xs).length/\(∀b o,s.heap.get? b=some o->h'.get? b=some o)) E)
    F.called_set.init.plain F.entry_set_init (check_set_init_1 tS ?_)) fun res2 z2 ziy=>?_
   ·obtain⟨ol,gl,cl,nl,dl⟩:=hl
    obtain⟨ocls,odict,odata,oslots⟩:=ol
    have cl':ocls=.type "list" := cl
    have dl':odata=.seq us.toArray nl:=dl
    subst cl' dl'
    have gl':(s.heap.push (J5 led)).get? l=some { cls:=.type "list", dict:=odict,data:=.seq us.toArray nl,slots:=oslots }:=zui _ gl
    have c1:=F.sub_list_set
    have c2:=F.sub_list_frozenset
    have c3:(Value.type "list" == Value.type "dict")=false:=by decide
    have isl:(s.heap.push (J5 led)).IsList l us.toArray:=⟨_,gl',rfl,nl,rfl⟩
    unfold Builtin.«set.__init__» noKeywords Builtin.Frozenset.updateFrom
    generalize hit:pyIter=itf
    wp_walk
    subst hit
    refine wpAny_pyIter_list isl ?_
    refine wpAny_bind (wpAny_runValue ?_)
    have ltl:l<s.heap.objs.size:=zuj gl
    have hd3:A.in1.in1.in1.handled=none:=by simp[hh]
    have sz1:(s.heap.push (J5 led)).objs.size=s.heap.objs.size+1:=Heap.size_push ..
    have nel:l≠(s.heap.push (J5 led)).objs.size:=by rw[sz1];exact zur (Nat.lt_succ_of_lt ltl)
    have nin:s.heap.objs.size∉[(s.heap.push (J5 led)).objs.size,l]:=by
     rw[sz1]
     simp only[List.mem_cons,zuC,or_false,not_or]
     exact⟨zur (Nat.lt_succ_self _),Nat.ne_of_gt ltl⟩
    refine ziw ((Walks.list hd3 _ l nel us.toArray).toS) s.heap.objs.size nin xs hlen (fun i v hv=>zjR r i v (by simpa using hv)) (by rw[<-hlen];exact hb) (us.toArray.size-0) 0 _ (by omega) (zuy _)
     ⟨⟨_,zuw _ rfl,rfl,rfl⟩,isl.push _⟩ ?s0 ?fin
    case s0 =>
     have gg:((s.heap.push (J5 led)).push { cls:=.type "list_iterator", data:=.fields #[.ref l,.int 0 0] }).get? s.heap.objs.size=some (J5 led):=zui _ gS
     exact SetOf_congr ((setObjOf_fresh (knd:=strKind P w) led).setOf gg (by unfold scanBound;omega)) (fun _=>rfl) rfl
    case fin =>
     intro z mv sz
     obtain⟨h',g',d',tk',os'⟩:=z
     have e1:g'=s.gens:=mv.gens
     have e2:d'=s.drawn:=mv.drawn
     have e3:os'=s.os:=mv.os
     subst e1 e2 e3
     show wpAny _ _ _ _ _ _
     refine wpAny_pure ?_
     show wpAny _ _ (ret Value.none) _ _ _
     refine wpAny_pure ⟨rfl,h',tk',rfl,sz,fun b o e=>?_⟩
     have lb:=zuj e
     have n1:b≠s.heap.objs.size:=zur lb
     have n2:b≠(s.heap.push (J5 led)).objs.size:=by rw[sz1];exact zur (Nat.lt_succ_of_lt lb)
     exact mv.heap b o (by simp only[List.mem_cons,zuC,or_false,not_or];exact⟨n1,n2⟩) (zui _ (zui _ e))
   ·cases res2 with
    | error e=>exact ziy
    | ok fl2 =>
     cases fl2 with
     | ret v =>
      obtain⟨rfl,h',tk,rfl,sS,kk⟩:=ziy
      repeat (any_goals (first | assumption | wp_step))
      exact h _ _ sS kk
     | _=>exact ziy.elim
  | _=>exact hres.elim
end
section
variable {X:Cx}
def zjS (P:Program)(w:World)(a:Addr)(n:Nat):HO:=.ext fun h=>∃S,h.SetOf (strKind P w) a S n
theorem ziz (hc:X.calm=true):Wc X (.type "set") (fun xs H Q=>∃(p:Addr) (ts:List Str),xs=[.ref p]/\zT X.K H p (ts.map V.str)/\ts.length<=100/\∀q,H q=none->Q (.ref q) (upd H q (zjS X.prog X.w q (dd ts).length))):=by
 intro pins s σ H xs us Q I r h
 obtain⟨p,ts,rfl,hq,h100,q⟩:=h
 obtain⟨u,rfl,rx⟩:=vals1 r
 cases rx
 obtain⟨its,r',pl,hz⟩:=I.list hq
 refine zix (I.ok.hd hc) pl.isList r' (Nat.lt_of_le_of_lt (Nat.add_le_add_right h100 1) (by decide)) fun h' tk hS hk=>?_
 refine⟨.ref s.heap.objs.size,_,I.laid hk (zus _) (o:=zjS X.prog X.w s.heap.objs.size (dd ts).length) ?_,rfl,q _ (I.hok.fresh (zus _))⟩
 refine⟨⟨_,hS⟩,?_,?_⟩
 ·obtain⟨o,es,ep,t,ho,_⟩:=hS
  exact⟨o,ho⟩
 ·rintro h1 h2 ⟨S,o,es,ep,t,ho,rest⟩ k
  exact⟨S,o,es,ep,t,k o ho,rest⟩
theorem call_len_set':Wc X (.builtin "len") (fun xs H Q=>∃(p:Addr) (n:Nat),xs=[.ref p]/\H p=some (zjS X.prog X.w p n)/\Q (.int n) H):=by
 intro pins s σ H xs us Q I r h
 obtain⟨p,n,rfl,hp,q⟩:=h
 obtain⟨u,rfl,rx⟩:=vals1 r
 cases rx
 obtain⟨⟨S,o,es,ep,t,ho,hex,hd,_,_,hb,hf,hn⟩,_⟩:=I.hok p _ hp
 have h63:(es.size:Int)<2^63:=by
  have h1:scanBound<2^63:=by decide
  omega
 refine call_len_set ho hex hd hf h63 ⟨.int n,H,I.tok _,⟨s.toks+1,?_⟩,q⟩
 rw[hn]
def zjT (K:Frag)(P:Program)(w:World)(a:Addr)(kvs:List (Str×Value)):Prop:=(a==sysModules)=false/\∃o,K.lookup a=some o/\o.IsDictOf (strKind P w) kvs
theorem zcH {a:Addr}{kvs:List (Str×Value)}(hd:zjT X.K X.prog X.w a kvs):IxR X (fun x y H Q=>∃k u v,x=.ref a/\y=.str k/\valueAt kvs k=some u/\RelV v u/\Q v H):=by
 intro value slice pins s σ H x y v u Q I rx ry h hs
 obtain⟨k,z,vv,rfl,rfl,hv,rv,q⟩:=h
 cases rx
 obtain⟨t,rfl⟩:=ry
 obtain⟨_,o,hk,hdd⟩:=hd
 have D:s.heap.DictOf (strKind X.prog X.w) a kvs:=Heap.dictOf_iff.mpr ⟨o,I.NK a o hk,hdd⟩
 exact tail_any D.typeIs slot_dict_getitem.lookup (wpAny_getItem_of (strKind_is _ _ k t) D.mapOf hv ⟨vv,H,I.tok _,rv,q⟩) hs
theorem zbo {a:Addr}{kvs:List (Str×Value)}(hd:zjT X.K X.prog X.w a kvs):U0 X (compareOp .NotIn) (fun x y H Q=>∃k,x=.str k/\y=.ref a/\Q (.bl (!(valueAt kvs k).isSome)) H):=by
 intro pins s σ H x y v u Q I rx ry h
 obtain⟨k,rfl,rfl,q⟩:=h
 cases ry
 obtain⟨t,rfl⟩:=rx
 obtain⟨hs,o,hk,hdd⟩:=hd
 have D:s.heap.DictOf (strKind X.prog X.w) a kvs:=Heap.dictOf_iff.mpr ⟨o,I.NK a o hk,hdd⟩
 exact wpAny_notIn_of (strKind_is _ _ k t) hs D.mapOf ⟨.bl _,H,I.tok _,rfl,q⟩
theorem Inv.zgm {pins:List (Addr×Obj)}{σ:St}{H:Hp}{s:Shared}{h':Heap}{t':Nat}{fp:List Addr}(I:Inv X pins σ H s)(k:∀b o,b∉fp->s.heap.get? b=some o->h'.get? b=some o)(ex:∀b∈fp,∃o,h'.get? b=some o)(hf:∀b∈fp,zbi X pins H b) :
  Inv X pins σ H { s with heap:=h',toks:=t' }:=by
 have nit:∀b u,H b=some u->b∉fp:=fun b u e z=>by rw[(hf b z).1] at e;cases e
 refine I.step (g':=s.gens) (d':=s.drawn) (ch:=fp) (fun b hb=>⟨(hf b hb).2.2.2.1,(hf b hb).2.1,(hf b hb).2.2.2.2.1,(hf b hb).2.2.2.2.2⟩) (fun b o _ _ hc e _=>k b o hc e) (fun b o _ _ hc e _=>⟨o.slots,k b o hc e⟩) (fun _ _ _ _ n=>n)
  (fun b o hc e=>⟨o,k b o hc e⟩) (fun _ _ e=>e) (fun _ _ _ e=>e) (fun b ps e=>⟨#[],by rw[e];simp⟩) (fun m hm=>?_) (fun b u e=>?_) I.bare
 ·obtain⟨o,es,ep,ho,r⟩:=hm
  exact⟨o,es,ep,k _ o (fun z=>(hf _ z).2.1 rfl) ho,r⟩
 ·refine(I.hok b u e).stay (fun c v hc q=>k c v ?_ q) (fun _ q=>q) fun _ _ q=>q
  rcases hc with z | z
  ·rw[z];exact nit b u e
  ·exact nit c _ z
def Ite (K:Frag)(a:Addr):It :=
 ⟨fun i H=>∃xs x,zT K H a xs/\xs[i]?=some x,fun i H x H'=>∃p y,(∀xs,zT K H a xs->xs[i]?=some y)/\x=.ref p/\H p=none/\H'=upd H p (.tup [.int (i:Nat),y]),fun i H=>∃xs,zT K H a xs/\xs.length<=i⟩
theorem zha {P:Program}{w:World}{K:Frag}{els:List Expr}{x1}{pt:Pos}(a e it:Addr)(hne:e≠it):Turn P w K (.Tuple els x1 pt) (Ite K a) [e,it] e (fun i h=>(∃old,IsEnum h e it (i:Nat) old)/\h.IsListIter it a i) where
 mem:=by simp
 obj:=fun i h st b hb=>by
  rcases List.mem_cons.mp hb with z | z
  ·obtain⟨⟨old,q⟩,_⟩:=st
   rw[z]
   exact⟨_,q,fun v hv=>by cases hv⟩
  ·have z':b=it:=by simpa using z
   obtain⟨_,o,q,c,d⟩:=st
   rw[z']
   exact⟨o,q,fun v hv=>by rw[d] at hv;cases hv⟩
 keep:=fun i h h' st k=>by
  obtain⟨⟨old,q⟩,q2⟩:=st
  exact⟨⟨old,k e (by simp) _ q⟩,q2.at fun o z=>k it (by simp) o z⟩
 item:=by
  intro X hP hw hK hc i pins s σ H E I hf st hg
  subst hP hw hK
  obtain⟨xs,x,hq,hx⟩:=hg
  obtain⟨⟨old,he⟩,hit⟩:=st
  obtain⟨its,rv,pl,hz⟩:=I.list hq
  obtain⟨u,hu,ru⟩:=rv.get hx
  refine wpAny_pyNext_enum_item he hit pl.isList (x:=u) (by simpa using hu) hne fun h1 out hit1 tup sz k1=>?_
  refine⟨.ref s.heap.objs.size,rfl,wpAny_letOwnedTupleGo_enum out fun h2 he2 sb=>?_⟩
  have lte:=zuj he
  have k2:∀b o,b∉[e,it]->s.heap.get? b=some o->h2.get? b=some o:=fun b o hb q=>by
   have hb':b≠e/\b≠it:=by simpa using hb
   exact(sb.2 b hb'.1).trans (k1 b o hb'.1 hb'.2 q)
  have hit2:h2.IsListIter it a (i+1):=hit1.at fun o z=>(sb.2 it (Ne.symm hne)).trans z
  have J1:Inv X pins σ H { s with heap:=h2,toks:=s.toks+1 }:=I.zgm (fp:=[e,it]) k2 (fun b hb=>by
   rcases List.mem_cons.mp hb with z | z
   ·rw[z];exact⟨_,he2⟩
   ·have z':b=it:=by simpa using z
    obtain⟨o,q,_⟩:=hit2
    rw[z'];exact⟨o,q⟩) hf
  have zlM:h2.get? s.heap.objs.size=some { cls:=.type "tuple", data:=.seq #[.int i s.toks,u] }:=(sb.2 _ (Nat.ne_of_gt lte)).trans tup
  have ltc:∀y c,X.env.cells.lookup y=some c->c≠s.heap.objs.size:=fun y c q=>by
   obtain⟨v,o,z,_⟩:=I.cell y c q
   exact zur (zuj z)
  have ltp:∀p∈X.pn++pins,p.1≠s.heap.objs.size:=fun p hp=>zur (zuj (I.pin p hp).1)
  have J2:=J1.track (a:=s.heap.objs.size) (o:=.tup [.int (i:Nat),x]) I.fresh (Ne.symm (zur I.lt)) I.sz ltc ltp ⟨by show 2<=sizeLine;decide,[.int i s.toks,u],.cons ⟨_,rfl⟩ (.cons ru .nil),⟨_,zlM,rfl,_,rfl⟩⟩
  refine⟨.ref s.heap.objs.size,_,J2,rfl,⟨_,x,fun ys hy=>by rw[I.Xr hy hq];exact hx,rfl,I.fresh,rfl⟩,⟨⟨u,?_⟩,hit2⟩,fun b hb=>?_⟩
  ·have:=he2
   simpa using this
  ·have lb:b<s.heap.objs.size:=by
    rcases List.mem_cons.mp hb with z | z
    ·rw[z];exact lte
    ·have z':b=it:=by simpa using z
     obtain⟨o,q,_⟩:=hit
     rw[z'];exact zuj q
   rw[zy (zur lb)]
   exact(hf b hb).1
 done:=by
  intro X hP hw hK hc i pins s σ H E I hf st hg
  subst hP hw hK
  obtain⟨xs,hq,hx⟩:=hg
  obtain⟨⟨old,he⟩,hit⟩:=st
  obtain⟨its,rv,pl,hz⟩:=I.list hq
  have hl:=rv.length
  obtain⟨f0,f1,f2,f3,f4,f5⟩:=hf it (by simp)
  exact wpAny_pyNext_enum_end (I.ok.hd hc) he hit pl.isList (by simp;omega) fun h' eb=>⟨rfl,I.turned (t':=s.toks) (fun b o hb q=>eb b o hb q) f0 f1 f3 f4 f5⟩
 self:=fun _ _ _ _ _ st h=>let ⟨⟨_,he⟩,_⟩:=st;wpAny_pyIter_enum he h
def znd (K:Frag)(ta:TA):TI:=fun σ H R=>ta σ H fun vs H1=>∃a xs,vs=[.ref a]/\zT K H1 a xs/\R (Ite K a) H1
theorem boot_enumerate:bootBuiltins "enumerate"=some (.type "enumerate"):=by decide +kernel
theorem zjU {l:Expr}{ta:TA}{p pos:Pos}{els:List Expr}{x1}{pt:Pos}(hg:Gl X "enumerate")(hm:X.mg "enumerate"=none)(ha:PA X [l] ta)(hs:starEach [l] X.env=[(false,eval l X.env)]:=by rfl) :
  PI X (.Tuple els x1 pt) (.Call (.Name "enumerate" p) [l] [] pos) (znd X.K ta):=by
 intro pins s σ H R I h
 refine Call_ (Vr I hg hm boot_enumerate (PyProof.Rows.callWith_type1 (wM (ha pos pins s σ H _ I h) fun us s1 ⟨vs,H1,I1,r1,q1⟩=>?_) hs rfl))
 obtain⟨a,xs,e,hq,q⟩:=q1
 subst e
 obtain⟨u,rfl,ru⟩:=vals1 r1
 cases ru
 obtain⟨its,rv,pl,hz⟩:=I1.list hq
 refine call_enumerate_list pl.isList fun h' he hit hsz hk=>?_
 have J:Inv X pins σ H1 { s1 with heap:=h',toks:=s1.toks }:=I1.kept hk
 refine wpAny_pyIter_enum he ?_
 refine⟨s1.heap.objs.size+1,[s1.heap.objs.size+1,s1.heap.objs.size],_,_,H1,rfl,J,zha a _ _ (Nat.ne_of_gt (Nat.lt_succ_self _)),⟨⟨_,he⟩,hit⟩,fun b hb=>?_,q⟩
 have gb:s1.heap.objs.size<=b:=by
  rcases List.mem_cons.mp hb with z | z
  ·rw[z];exact Nat.le_succ _
  ·have z':b=s1.heap.objs.size:=by simpa using z
   rw[z'];exact zus _
 exact I1.zh9 gb (I1.hok.fresh gb)
theorem ziA {K:Frag}{a:Addr}{xs:List V}{g:TG}{tb:TS}{D:Ends}{σ:St}{H:Hp}(Pv:Nat->St->Hp->Prop)(h0:Pv 0 σ H)(hl:∀i σ H,i<=xs.length->Pv i σ H->zT K H a xs)
  (hs:∀i x σ H p,xs[i]?=some x->Pv i σ H->H p=none->g (.ref p) σ (upd H p (.tup [.int (i:Nat),x])) fun σ2 H2=>tb { D with nx:=Pv (i+1),ct:=Pv (i+1),bk:=D.nx } σ2 H2)(hd:∀ σ H,Pv xs.length σ H->D.nx σ H) :
  ∃W:Nat->Nat->St->Hp->Prop,(∃m,W 0 m σ H)/\∀i m σ H,W i m σ H ->
   ((Ite K a).stop i H/\D.nx σ H)\/((Ite K a).go i H/\∃N:St->Hp->Prop,(∀ σ' H',N σ' H'->∃m',m'<m/\W (i+1) m' σ' H')/\∀x H',(Ite K a).Jb i H x H'->g x σ H' fun σ2 H2=>tb { D with nx:=N,ct:=N,bk:=D.nx } σ2 H2):=by
 refine⟨fun i m σ H=>m=xs.length-i/\i<=xs.length/\Pv i σ H,⟨xs.length,by simp,zuy _,h0⟩,?_⟩
 rintro i m σ H ⟨rfl,hi,p⟩
 have q:=hl i σ H hi p
 by_cases hlt:i<xs.length
 ·refine .inr ⟨⟨xs,xs[i],q,by simp[hlt]⟩,Pv (i+1),fun σ' H' p'=>⟨xs.length-(i+1),by omega,rfl,hlt,p'⟩,fun x H' y=>?_⟩
  obtain⟨pp,z,q1,rfl,q3,rfl⟩:=y
  exact hs i z σ H pp (q1 xs q) p q3
 ·have e:i=xs.length:=by omega
  subst e
  exact .inl ⟨⟨xs,q,zus _⟩,hd σ H p⟩
end
theorem yO:bootBuiltins "len"=some (.builtin "len"):=by decide +kernel
theorem Tc:bootBuiltins "all"=some (.builtin "all"):=by decide +kernel
theorem ze9:bootBuiltins "sum"=some (.builtin "sum"):=by decide +kernel
theorem RG:bootBuiltins "isinstance"=some (.builtin "isinstance"):=by decide +kernel
theorem zlN:bootBuiltins "int"=some (.type "int"):=by decide +kernel
theorem zlO:bootBuiltins "str"=some (.type "str"):=by decide +kernel
theorem ziB:bootBuiltins "tuple"=some (.type "tuple"):=by decide +kernel
theorem zcI:bootBuiltins "list"=some (.type "list"):=by decide +kernel
theorem zlP:bootBuiltins "set"=some (.type "set"):=by decide +kernel
theorem zfa {v:V}{u:Value}(h:Rx u=some v):RelV v u:=by
 cases u<;>simp only[Rx,Option.some.injEq,reduceCtorEq] at h<;>subst h<;>first | exact rfl | exact⟨_,rfl⟩
theorem Ko:∀{us:List Value} {xs:List V},us.map Rx=xs.map some->Vals xs us
 | [],[],_=>.nil
 | u::us,x::xs,h=>by
  rw[zuA,zuA] at h
  injection h with h1 h2
  exact .cons (zfa h1) (Ko h2)
 | [],_::_,h=>by cases h
 | _::_,[],h=>by cases h
theorem Td {K:Frag}{H:Hp}{p:Addr}{od:Option Addr}{it:Array Value}{n:Nat}{sl:Array (Option Value)}{xs:List V}(l:K.lookup p=some ⟨.type "tuple", od,.seq it n,sl⟩)(v:it.toList.map Rx=xs.map some)(hz:xs.length<=1000):wK K H p xs:=by
 have r:=Ko v
 refine .inr ⟨_,it,n,l,rfl,rfl,?_,r⟩
 have e:xs.length=it.size:=by have:=r.length;simpa using this
 rw[<-e]
 exact zuu (zQ hz)
theorem zlQ {P:Program}{w:World}:Pairs (strKind P w) [] []/\∀e∈([]:List DictEntry),∃k,(strKind P w).is k e.key=true/\e.hash=(strKind P w).hash k:=⟨.nil,fun _ h=>nomatch h⟩
theorem Yd {P:Program}{w:World}{k:Str}{t:Tok}{v:Value}{es:List DictEntry}{kvs:List (Str×Value)}(h:Pairs (strKind P w) es kvs/\∀e∈es,∃k,(strKind P w).is k e.key=true/\e.hash=(strKind P w).hash k) :
  Pairs (strKind P w) (⟨hashStr w k,.str k t,v⟩::es) ((k,v)::kvs)/\∀e∈(⟨hashStr w k,.str k t,v⟩::es:List DictEntry),∃k,(strKind P w).is k e.key=true/\e.hash=(strKind P w).hash k:=by
 refine⟨.cons (strKind_is _ _ k t) rfl h.1,fun e he=>?_⟩
 rcases List.mem_cons.mp he with z | z
 ·subst z;exact⟨k,strKind_is _ _ k t,rfl⟩
 ·exact h.2 e z
theorem zjV {P:Program}{w:World}{K:Frag}{p:Addr}{es:Array DictEntry}{ep:Nat}{el:List DictEntry}{kvs:List (Str×Value)}(l:K.lookup p=some ⟨.type "dict", none,.dict es ep,#[]⟩)(e:es.toList=el)(s:(p==sysModules)=false)
  (h:Pairs (strKind P w) el kvs/\∀e∈el,∃k,(strKind P w).is k e.key=true/\e.hash=(strKind P w).hash k)(nd:(kvs.map (·.1)).Nodup):zjT K P w p kvs:=by
 subst e
 exact⟨s,_,l,es,ep,⟨rfl,rfl,rfl⟩,rfl,fun x hx=>h.2 x (by simpa using hx),h.1,nd⟩
theorem zhb {kvs:List (Str×Value)}{k:Str}(h:∀e∈kvs,e.1≠k):valueAt kvs k=none:=by
 unfold valueAt
 rw[List.find?_eq_none.mpr fun e he=>by simpa using h e he]
 rfl
end L2
namespace Y9
open PySem
inductive Sn where
 | c0 (y:Bool)
 | mk (x:Str)
 | nt (s:Sn)
 | b2 (o:Fin 4) (s t:Sn)
 | q1 (o:Bool) (x:Str) (s:Sn)
def w2:Fin 4->Str
 | 0 => "and"
 | 1 => "or"
 | 2 => "either"
 | 3 => "if"
namespace Sn
def word:Sn->Str
 | c0 true => "yes"
 | c0 false => "no"
 | mk _ => "mark"
 | nt _ => "not"
 | b2 o _ _=>w2 o
 | q1 true _ _ => "some"
 | q1 false _ _ => "each"
def letters:Sn->List Str
 | mk x=>[x]
 | q1 _ x _=>[x]
 | _=>[]
def parts:Sn->List Sn
 | nt s=>[s]
 | b2 _ s t=>[s,t]
 | q1 _ _ s=>[s]
 | _=>[]
def count:Sn->Nat
 | nt s=>1+s.count
 | b2 _ s t=>1+(s.count+t.count)
 | q1 _ _ s=>1+s.count
 | _=>1
def depth:Sn->Nat
 | nt s=>1+s.depth
 | b2 _ s t=>1+max s.depth t.depth
 | q1 _ _ s=>1+s.depth
 | _=>1
def QK (os:List Str):Sn->Prop
 | c0 _=>True
 | mk x=>x∈os
 | nt s=>s.QK os
 | b2 _ s t=>s.QK os/\t.QK os
 | q1 _ x s=>x∈os/\s.QK os
def op2:Fin 4->Bool->Bool->Bool
 | 0,a,b=>a&&b
 | 1,a,b=>a||b
 | 2,a,b=>a != b
 | 3,a,b=>!a||b
def val:Sn->(Str->Bool)->Bool
 | c0 y,_=>y
 | mk x,e=>e x
 | nt s,e=>!s.val e
 | b2 o s t,e=>op2 o (s.val e) (t.val e)
 | q1 true x s,e=>s.val (fun y=>if y=x then true else e y)||s.val (fun y=>if y=x then false else e y)
 | q1 false x s,e=>s.val (fun y=>if y=x then true else e y)&&s.val (fun y=>if y=x then false else e y)
theorem val_congr {os:List Str}:∀(s:Sn) {e e':Str->Bool},s.QK os->(∀x∈os,e x=e' x)->s.val e=s.val e'
 | c0 _,_,_,_,_=>rfl
 | mk x,_,_,h,q=>q x h
 | nt s,_,_,h,q=>by unfold val;rw[val_congr s h q]
 | b2 o s t,_,_,h,q=>by unfold val;rw[val_congr s h.1 q,val_congr t h.2 q]
 | q1 o x s,e,e',h,q=>by
  have k:∀b:Bool,s.val (fun y=>if y=x then b else e y)=s.val (fun y=>if y=x then b else e' y):=fun b=>val_congr s h.2 fun y hy=>by
   by_cases hx:y=x
   ·rw[if_pos hx,if_pos hx]
   ·rw[if_neg hx,if_neg hx,q y hy]
  cases o<;>(unfold val;rw[k,k])
theorem N7:∀s:Sn,1<=s.depth
 | c0 _=>zus _
 | mk _=>zus _
 | nt _=>by unfold depth;omega
 | b2 _ _ _=>by unfold depth;omega
 | q1 _ _ _=>by unfold depth;omega
theorem Kp:∀s:Sn,s.count=1+(s.parts.map count).sum
 | c0 _=>rfl
 | mk _=>rfl
 | nt _=>by simp[count,parts]
 | b2 _ _ _=>by simp[count,parts]
 | q1 _ _ _=>by simp[count,parts]
theorem Te:∀(s:Sn),∀t∈s.parts,t.depth+1<=s.depth
 | c0 _,t,h=>by simp[parts] at h
 | mk _,t,h=>by simp[parts] at h
 | nt s,t,h=>by simp[parts] at h;subst h;show t.depth+1<=1+t.depth;omega
 | b2 _ s u,t,h=>by
  simp[parts] at h
  rcases h with h | h
  ·subst h;show t.depth+1<=1+max t.depth u.depth;omega
  ·subst h;show t.depth+1<=1+max s.depth t.depth;omega
 | q1 _ _ s,t,h=>by simp[parts] at h;subst h;show t.depth+1<=1+t.depth;omega
theorem zbV {os:List Str}:∀(s:Sn),s.QK os->∀t∈s.parts,t.QK os
 | c0 _,_,t,h=>by simp[parts] at h
 | mk _,_,t,h=>by simp[parts] at h
 | nt s,q,t,h=>by simp[parts] at h;subst h;exact q
 | b2 _ s u,q,t,h=>by
  simp[parts] at h
  rcases h with h | h<;>subst h
  ·exact q.1
  ·exact q.2
 | q1 _ _ s,q,t,h=>by simp[parts] at h;subst h;exact q.2
theorem zdE {os:List Str}:∀(s:Sn),s.QK os->∀x∈s.letters,x∈os
 | c0 _,_,t,h=>by simp[letters] at h
 | mk _,q,t,h=>by simp[letters] at h;subst h;exact q
 | nt s,q,t,h=>by simp[letters] at h
 | b2 _ s u,q,t,h=>by simp[letters] at h
 | q1 _ _ s,q,t,h=>by simp[letters] at h;subst h;exact q.1
end Sn
theorem vA (b p:Nat):(b+2^p).testBit p=!b.testBit p:=by rw[Nat.add_comm];exact Nat.testBit_two_pow_add_eq b p
theorem Sw {b p j:Nat}(h:j<p):(b+2^p).testBit j=b.testBit j:=by rw[Nat.add_comm];exact Nat.testBit_two_pow_add_gt h b
theorem ziC {b p:Nat}(h:b.testBit p=false):b%2^(p+1)<2^p:=by
 have e:b%2^(p+1)=b%2^p+2^p*(b / 2^p%2):=by
  rw[Nat.pow_succ];exact Nat.mod_mul
 have z:b / 2^p%2=0:=by
  rw[Nat.testBit_eq_decide_div_mod_eq] at h
  have:=of_decide_eq_false h
  omega
 rw[e,z,Nat.mul_zero,Nat.add_zero]
 exact Nat.mod_lt b (Nat.two_pow_pos p)
theorem ziD (x i j:Nat):x.testBit (i+j)=(x / 2^i).testBit j:=by
 rw[Nat.testBit_div_two_pow,Nat.add_comm]
theorem zbW {b p j:Nat}(h:p<j)(h0:b.testBit p=false):(b+2^p).testBit j=b.testBit j:=by
 obtain⟨k,rfl⟩:∃k,j=(p+1)+k:=⟨j-(p+1),by omega⟩
 rw[ziD,ziD]
 have hm:=ziC h0
 have e:(b+2^p) / 2^(p+1)=b / 2^(p+1):=by
  have hp:2^(p+1)=2^p+2^p:=by rw[Nat.pow_succ];omega
  have d:=Nat.div_add_mod b (2^(p+1))
  have pos:=Nat.two_pow_pos (p+1)
  rw[Nat.div_eq_iff pos]
  have c:b / 2^(p+1)*2^(p+1)=2^(p+1)*(b / 2^(p+1)):=Nat.mul_comm _ _
  rw[c]
  omega
 rw[e]
def zZ (b p:Nat)(v:Bool):Nat:=if b.testBit p=v then b else if v then b+2^p else b-2^p
theorem zbX {b p:Nat}(h:b.testBit p=true):2^p<=b:=Nat.ge_two_pow_of_testBit h
theorem yd (b p j:Nat)(v:Bool):(zZ b p v).testBit j=if j=p then v else b.testBit j:=by
 unfold zZ
 by_cases h:b.testBit p=v
 ·rw[if_pos h]
  by_cases hj:j=p
  ·rw[if_pos hj,hj,h]
  ·rw[if_neg hj]
 ·rw[if_neg h]
  cases v with
  | true =>
   have h0:b.testBit p=false:=by simpa using h
   rw[if_pos rfl]
   by_cases hj:j=p
   ·subst hj;rw[if_pos rfl,vA,h0];rfl
   ·rw[if_neg hj]
    rcases Nat.lt_or_gt_of_ne hj with q | q
    ·exact Sw q
    ·exact zbW q h0
  | false =>
   have h1:b.testBit p=true:=by simpa using h
   rw[if_neg zug]
   have ge:=zbX h1
   obtain⟨c,hc⟩:∃c,b=c+2^p:=⟨b-2^p,by omega⟩
   have h0:c.testBit p=false:=by
    rw[hc,vA] at h1
    simpa using h1
   have e:b-2^p=c:=by omega
   rw[e,hc]
   by_cases hj:j=p
   ·subst hj;rw[if_pos rfl,h0]
   ·rw[if_neg hj]
    rcases Nat.lt_or_gt_of_ne hj with q | q
    ·exact(Sw q).symm
    ·exact(zbW q h0).symm
theorem yE {b p n:Nat}{v:Bool}(hb:b<2^n)(hp:p<n):zZ b p v<2^n:=by
 refine Nat.lt_pow_two_of_testBit _ fun i hi=>?_
 rw[yd,if_neg (by omega)]
 exact Nat.testBit_lt_two_pow (zul hb (zuH (by decide) hi))
def yP (n:Nat)(N:Nat)(f:Nat->Bool):Prop:=∀b,N.testBit b=(decide (b<2^n)&&f b)
theorem Jp (n:Nat):yP n (2^2^n-1) (fun _=>true):=fun b=>by
 rw[Nat.testBit_two_pow_sub_one,Bool.and_true]
theorem zdF (n:Nat):yP n 0 (fun _=>false):=fun b=>by simp
theorem Sx {n N M:Nat}{f g:Nat->Bool}(h:yP n N f)(k:yP n M g):yP n (N ^^^ M) (fun b=>f b != g b):=fun b=>by
 rw[Nat.testBit_xor,h b,k b]
 show _=(decide (b<2^n)&&(f b != g b))
 cases decide (b<2^n)<;>cases f b<;>cases g b<;>rfl
theorem Q9 {n N M:Nat}{f g:Nat->Bool}(h:yP n N f)(k:yP n M g):yP n (N&&&M) (fun b=>f b&&g b):=fun b=>by
 rw[Nat.testBit_and,h b,k b]
 show _=(decide (b<2^n)&&(f b&&g b))
 cases decide (b<2^n)<;>cases f b<;>cases g b<;>rfl
theorem J6 {n N M:Nat}{f g:Nat->Bool}(h:yP n N f)(k:yP n M g):yP n (N|||M) (fun b=>f b||g b):=fun b=>by
 rw[Nat.testBit_or,h b,k b]
 show _=(decide (b<2^n)&&(f b||g b))
 cases decide (b<2^n)<;>cases f b<;>cases g b<;>rfl
theorem vU {n N:Nat}{f g:Nat->Bool}(h:yP n N f)(e:∀b,b<2^n->f b=g b):yP n N g:=fun b=>by
 rw[h b]
 by_cases hb:b<2^n
 ·rw[e b hb]
 ·rw[decide_eq_false hb];rfl
theorem ziE {n N:Nat}{f:Nat->Bool}(h:yP n N f):N<2^2^n:=Nat.lt_pow_two_of_testBit _ fun i hi=>by
 rw[h i,decide_eq_false (by omega)];rfl
theorem zhc (p:Nat):yP (p+1) ((2^2^p-1)*2^2^p) (fun b=>b.testBit p):=fun b=>by
 rw[Nat.testBit_mul_two_pow,Nat.testBit_two_pow_sub_one]
 show _=(decide (b<2^(p+1))&&b.testBit p)
 have hp:2^(p+1)=2^p+2^p:=by rw[Nat.pow_succ];omega
 by_cases h1:2^p<=b
 ·by_cases h2:b<2^(p+1)
  ·have e:b.testBit p=true:=by
    obtain⟨c,rfl⟩:∃c,b=c+2^p:=⟨b-2^p,by omega⟩
    rw[vA,Nat.testBit_lt_two_pow (by omega)]
    rfl
   rw[e]
   simp[h1,h2]
   omega
  ·simp[h2]
   intro _
   omega
 ·have e:b.testBit p=false:=Nat.testBit_lt_two_pow (by omega)
  rw[e]
  simp[h1]
theorem zfb {p m N:Nat}(hp:p<m)(h:yP m N (fun b=>b.testBit p)):yP (m+1) (N|||N*2^2^m) (fun b=>b.testBit p):=fun b=>by
 rw[Nat.testBit_or,Nat.testBit_mul_two_pow,h b,h (b-2^m)]
 show(_||(_&&(_&&(b-2^m).testBit p)))=(decide (b<2^(m+1))&&b.testBit p)
 have hm:2^(m+1)=2^m+2^m:=by rw[Nat.pow_succ];omega
 by_cases h1:b<2^m
 ·have h2:b<2^(m+1):=by omega
  have h3:¬ 2^m<=b:=by omega
  simp[h1,h2,h3]
 ·have h3:2^m<=b:=by omega
  have e:(b-2^m).testBit p=b.testBit p:=by
   obtain⟨c,rfl⟩:∃c,b=c+2^m:=⟨b-2^m,by omega⟩
   rw[Sw hp,Nat.add_sub_cancel]
  rw[e]
  by_cases h2:b<2^(m+1)
  ·have h4:b-2^m<2^m:=by omega
   simp[h1,h2,h3,h4]
  ·have h4:¬b-2^m<2^m:=by omega
   simp[h1,h2,h3,h4]
theorem ziF {n p N R:Nat}{f:Nat->Bool}(hp:p<n)(h:yP n N f)(r:yP n R (fun b=>b.testBit p)) :
  yP n ((N&&&R) / 2^2^p|||(N ^^^ (N&&&R))*2^2^p) (fun b=>f (zZ b p (!b.testBit p))):=fun b=>by
 have o:=Q9 h r
 have z:=Sx h o
 have pp:=Nat.two_pow_pos p
 rw[Nat.testBit_or,Nat.testBit_mul_two_pow,Nat.testBit_div_two_pow,o,z]
 dsimp only
 by_cases hb:b<2^n
 ·cases hbit:b.testBit p with
  | false =>
   have e:zZ b p (!false)=b+2^p:=by
    unfold zZ
    rw[hbit,if_neg (by decide),if_pos (by decide)]
   have lt:b+2^p<2^n:=by rw[<-e];exact yE hb hp
   rw[e,vA,hbit]
   by_cases h1:2^p<=b
   ·have e2:(b-2^p).testBit p=true:=by
     obtain⟨c,rfl⟩:∃c,b=c+2^p:=⟨b-2^p,by omega⟩
     rw[vA] at hbit
     rw[Nat.add_sub_cancel]
     simpa using hbit
    rw[e2]
    have h4:b-2^p<2^n:=by omega
    simp[hb,lt,h1,h4]
   ·simp[hb,lt,h1]
  | true =>
   have ge:=zbX hbit
   have e:zZ b p (!true)=b-2^p:=by
    unfold zZ
    rw[hbit,if_neg (by decide),if_neg (by decide)]
   have e2:(b-2^p).testBit p=false:=by
    obtain⟨c,rfl⟩:∃c,b=c+2^p:=⟨b-2^p,by omega⟩
    rw[vA] at hbit
    rw[Nat.add_sub_cancel]
    simpa using hbit
   rw[e,vA,hbit,e2]
   have h4:b-2^p<2^n:=by omega
   simp[hb,ge,h4]
 ·have h3:¬b+2^p<2^n:=by omega
  have h5:(decide (2^p<=b)&&(decide (b-2^p<2^n)&&(f (b-2^p) != (f (b-2^p)&&(b-2^p).testBit p))))=false:=by
   by_cases h1:2^p<=b
   ·by_cases h4:b-2^p<2^n
    ·
     have e:(b-2^p).testBit p=true:=by
      cases q:(b-2^p).testBit p with
      | true=>rfl
      | false =>
       exfalso
       have l:=yE (v:=true) h4 hp
       unfold zZ at l
       rw[q,if_neg (by decide),if_pos rfl] at l
       omega
     rw[e]
     cases f (b-2^p)<;>simp
    ·simp[h4]
   ·simp[h1]
  rw[h5]
  simp[hb,h3]
theorem RJ (a:Nat):a%2=(a.testBit 0).toNat:=by
 rw[Nat.testBit_zero]
 have:=Nat.mod_two_eq_zero_or_one a
 rcases this with h | h<;>rw[h]<;>rfl
theorem zgn:∀(n a b:Nat),a<=n->(a ^^^ b)+2*(a&&&b)=a+b
 | 0,a,b,h=>by
  have:a=0:=by omega
  subst this;simp
 | n+1,a,b,h=>by
  by_cases h0:a=0
  ·subst h0;simp
  ·have ih:=zgn n (a / 2) (b / 2) (by omega)
   have e1:(a ^^^ b) / 2=a / 2 ^^^ b / 2:=Nat.xor_div_two
   have e2:(a&&&b) / 2=a / 2&&&b / 2:=Nat.and_div_two
   have d1:=Nat.div_add_mod (a ^^^ b) 2
   have d2:=Nat.div_add_mod (a&&&b) 2
   have d3:=Nat.div_add_mod a 2
   have d4:=Nat.div_add_mod b 2
   rw[e1] at d1
   rw[e2] at d2
   cases ha:a.testBit 0<;>cases hb:b.testBit 0
   ·have m1:(a ^^^ b)%2=0:=by rw[RJ,Nat.testBit_xor,ha,hb];rfl
    have m2:(a&&&b)%2=0:=by rw[RJ,Nat.testBit_and,ha,hb];rfl
    have m3:a%2=0:=by rw[RJ,ha];rfl
    have m4:b%2=0:=by rw[RJ,hb];rfl
    omega
   ·have m1:(a ^^^ b)%2=1:=by rw[RJ,Nat.testBit_xor,ha,hb];rfl
    have m2:(a&&&b)%2=0:=by rw[RJ,Nat.testBit_and,ha,hb];rfl
    have m3:a%2=0:=by rw[RJ,ha];rfl
    have m4:b%2=1:=by rw[RJ,hb];rfl
    omega
   ·have m1:(a ^^^ b)%2=1:=by rw[RJ,Nat.testBit_xor,ha,hb];rfl
    have m2:(a&&&b)%2=0:=by rw[RJ,Nat.testBit_and,ha,hb];rfl
    have m3:a%2=1:=by rw[RJ,ha];rfl
    have m4:b%2=0:=by rw[RJ,hb];rfl
    omega
   ·have m1:(a ^^^ b)%2=0:=by rw[RJ,Nat.testBit_xor,ha,hb];rfl
    have m2:(a&&&b)%2=1:=by rw[RJ,Nat.testBit_and,ha,hb];rfl
    have m3:a%2=1:=by rw[RJ,ha];rfl
    have m4:b%2=1:=by rw[RJ,hb];rfl
    omega
theorem ziG:∀(n a b:Nat),a<=n->(a|||b)+(a&&&b)=a+b
 | 0,a,b,h=>by
  have:a=0:=by omega
  subst this;simp
 | n+1,a,b,h=>by
  by_cases h0:a=0
  ·subst h0;simp
  ·have ih:=ziG n (a / 2) (b / 2) (by omega)
   have e1:(a|||b) / 2=a / 2|||b / 2:=Nat.or_div_two
   have e2:(a&&&b) / 2=a / 2&&&b / 2:=Nat.and_div_two
   have d1:=Nat.div_add_mod (a|||b) 2
   have d2:=Nat.div_add_mod (a&&&b) 2
   have d3:=Nat.div_add_mod a 2
   have d4:=Nat.div_add_mod b 2
   rw[e1] at d1
   rw[e2] at d2
   cases ha:a.testBit 0<;>cases hb:b.testBit 0
   ·have m1:(a|||b)%2=0:=by rw[RJ,Nat.testBit_or,ha,hb];rfl
    have m2:(a&&&b)%2=0:=by rw[RJ,Nat.testBit_and,ha,hb];rfl
    have m3:a%2=0:=by rw[RJ,ha];rfl
    have m4:b%2=0:=by rw[RJ,hb];rfl
    omega
   ·have m1:(a|||b)%2=1:=by rw[RJ,Nat.testBit_or,ha,hb];rfl
    have m2:(a&&&b)%2=0:=by rw[RJ,Nat.testBit_and,ha,hb];rfl
    have m3:a%2=0:=by rw[RJ,ha];rfl
    have m4:b%2=1:=by rw[RJ,hb];rfl
    omega
   ·have m1:(a|||b)%2=1:=by rw[RJ,Nat.testBit_or,ha,hb];rfl
    have m2:(a&&&b)%2=0:=by rw[RJ,Nat.testBit_and,ha,hb];rfl
    have m3:a%2=1:=by rw[RJ,ha];rfl
    have m4:b%2=0:=by rw[RJ,hb];rfl
    omega
   ·have m1:(a|||b)%2=1:=by rw[RJ,Nat.testBit_or,ha,hb];rfl
    have m2:(a&&&b)%2=1:=by rw[RJ,Nat.testBit_and,ha,hb];rfl
    have m3:a%2=1:=by rw[RJ,ha];rfl
    have m4:b%2=1:=by rw[RJ,hb];rfl
    omega
theorem zlR (a b:Nat):Builtin.bitAnd (a:Int) (b:Int)=((a&&&b:Nat):Int):=by
 unfold Builtin.bitAnd
 rw[decide_eq_true (Int.natCast_nonneg a),decide_eq_true (Int.natCast_nonneg b)]
 simp
theorem orI (a b:Nat):Builtin.bitOr (a:Int) (b:Int)=((a|||b:Nat):Int):=by
 rw[PyProof.Rows.bitOr_and,zlR]
 have:=ziG a a b (zus _)
 omega
theorem zpd (a b:Nat):Builtin.bitXor (a:Int) (b:Int)=((a ^^^ b:Nat):Int):=by
 rw[PyProof.Rows.bitXor_and,zlR]
 have:=zgn a a b (zus _)
 omega
theorem zne (n:Nat):(2:Int)^n=((2^n:Nat):Int):=by simp
end Y9
namespace L2
open PySem PySem.Spec PyProof.Rows Y9
section
variable {X:Cx}
def znf:R2:=fun x y H Q=>∃a n:Nat,x=.int a/\y=.int n/\a<2^10000/\n<=10000/\Q (.int (a*2^n:Nat)) H
theorem Zi:U0 X (binaryOp .LShift) znf:=by
 intro pins s σ H x y v u Q I rx ry h
 obtain⟨a,n,rfl,rfl,ha,hn,q⟩:=h
 obtain⟨t,rfl⟩:=rx
 obtain⟨t',rfl⟩:=ry
 have hb:Builtin.Int.intBits (a:Int)<=10000:=intBits_le (by simpa using ha)
 refine lshift_int (Int.natCast_nonneg n) ?_ ?_
 ·have e:(2:Int)^27=134217728:=by decide
  rw[e];omega
 ·rw[zuO]
  have e:(a:Int)*2^n=((a*2^n:Nat):Int):=by rw[zne,Int.natCast_mul]
  rw[e]
  exact⟨.int (a*2^n:Nat),H,I.tok _,⟨_,rfl⟩,q⟩
def zng:R2:=fun x y H Q=>∃a n:Nat,x=.int a/\y=.int n/\Q (.int (a / 2^n:Nat)) H
theorem zjW:U0 X (binaryOp .RShift) zng:=by
 intro pins s σ H x y v u Q I rx ry h
 obtain⟨a,n,rfl,rfl,q⟩:=h
 refine zlw pins s σ H _ _ v u Q I rx ry ⟨_,_,rfl,rfl,Int.natCast_nonneg n,?_⟩
 show Q (.int ((a:Int) / 2^(n:Int).toNat)) H
 rw[zuO,zne,<-Int.natCast_ediv]
 exact q
def rN2 (g:Nat->Nat->Nat):R2:=fun x y H Q=>∃a b:Nat,x=.int a/\y=.int b/\Q (.int (g a b:Nat)) H
theorem Jq:U0 X (binaryOp .BitAnd) (rN2 (·&&&·)):=by
 intro pins s σ H x y v u Q I rx ry h
 obtain⟨a,b,rfl,rfl,q⟩:=h
 exact zlx pins s σ H _ _ v u Q I rx ry ⟨_,_,rfl,rfl,by show Q (.int (Builtin.bitAnd a b)) H;rw[zlR];exact q⟩
theorem N8:U0 X (binaryOp .BitOr) (rN2 (·|||·)):=by
 intro pins s σ H x y v u Q I rx ry h
 obtain⟨a,b,rfl,rfl,q⟩:=h
 exact zmV pins s σ H _ _ v u Q I rx ry ⟨_,_,rfl,rfl,by show Q (.int (Builtin.bitOr a b)) H;rw[orI];exact q⟩
theorem Pa:U0 X (binaryOp .BitXor) (rN2 (· ^^^ ·)):=by
 intro pins s σ H x y v u Q I rx ry h
 obtain⟨a,b,rfl,rfl,q⟩:=h
 exact zly pins s σ H _ _ v u Q I rx ry ⟨_,_,rfl,rfl,by show Q (.int (Builtin.bitXor a b)) H;rw[zpd];exact q⟩
end
end L2
namespace L2
open PySem PySem.Spec PyProof.Rows
def strsOf:List Expr->Option (List Str)
 | []=>some []
 | .Constant (.str x) _ _::r=>(strsOf r).map (x::·)
 | _=>none
theorem zdG {e:Expr}{r:List Expr}{xs:List Str}(h:strsOf (e::r)=some xs):∃x j p ys,e=.Constant (.str x) j p/\strsOf r=some ys/\xs=x::ys:=by
 cases e with
 | Constant c j p =>
  cases c with
  | str x =>
   have h':(strsOf r).map (x::·)=some xs:=h
   cases hr:strsOf r with
   | none=>rw[hr] at h';cases h'
   | some ys =>
    rw[hr] at h'
    exact⟨x,j,p,ys,rfl,rfl,(zuG h').symm⟩
  | _=>cases h
 | _=>cases h
def znh (xs:List Str):TA:=fun _ H Q=>Q (xs.map V.str) H
def zkV (xs:List Str):TE:=fun _ H Q=>xs.length<=sizeLine/\∀p,H p=none->Q (.ref p) (upd H p (.lst (xs.map V.str)))
section
variable {X:Cx}
theorem zjX {es:List Expr}:∀{xs:List Str},strsOf es=some xs->PA X es (znh xs):=by
 induction es with
 | nil =>
  intro xs h
  cases h
  exact fun pos pins s σ H Q I q=>zc pos pins s σ H Q I q
 | cons e r ih =>
  intro xs h
  obtain⟨x,j,p,ys,rfl,hr,rfl⟩:=zdG h
  exact fun pos pins s σ H Q I q=>za (vd (x:=x) (j:=j) (pos:=p)) (ih hr) rfl pos pins s σ H Q I q
theorem zjY {es:List Expr}{pos:Pos}{xs:List Str}(h:strsOf es=some xs):PE X (.List es pos) (zkV xs):=by
 intro pins s σ H Q I q
 refine vg (zjX h) pins s σ H Q I ⟨?_,q.2⟩
 rw[zuc];exact q.1
def zcJ:Stmt->Option (Str×List Str)
 | .Assign [.Name x _] (.List es _) _=>(strsOf es).map (x,·)
 | _=>none
theorem zcK {st:Stmt}{x:Str}{xs:List Str}(h:zcJ st=some (x,xs)):∃p es q r,st=.Assign [.Name x p] (.List es q) r/\strsOf es=some xs:=by
 unfold zcJ at h
 split at h
 ·rename_i y p es q r
  cases hs:strsOf es with
  | none=>rw[hs] at h;cases h
  | some ys =>
   rw[hs] at h
   cases h
   exact⟨_,_,_,_,rfl,hs⟩
 ·cases h
theorem zjZ {i:Nat}{x:Str}{xs:List Str}{st:Stmt}(h:zcJ st=some (x,xs))(hN:X.N.Nodup)(hi:X.N[i]?=some x)(hx:Loc X.env.scope x)(hf:X.fn x=true\/X.env.scope.names.lookup x=some .local):PS X st (zlq (zkV xs) (Uu i)):=by
 obtain⟨p,es,q,r,rfl,hs⟩:=zcK h
 exact zN hN hi hx (zjY hs) rfl hf
end
end L2
set_option exponentiation.threshold 20000
namespace Y9
open PySem L2
section
variable {K:Frag}
theorem zdH {a k:Nat}(h:a<2^k)(hk:k<=10000):a<2^10000:=zul h (zuH (by decide) hk)
theorem zhd {n:Nat}(hn:n<=8):2^n<=256:=zuH (n:=2) (by decide) hn
def Xl:Sp:=fun vs H Q _=>∃n:Nat,vs=[.int n]/\n<=8/\Q (.int ((2^2^n-1:Nat):Int)) H
def tM:Sp:=fun vs H Q _=>∃p n:Nat,vs=[.int p,.int n]/\p<n/\n<=8/\∀R:Nat,yP n R (fun b=>b.testBit p)->Q (.int R) H
def Xm:Sp:=fun vs H Q _=>∃(N p n:Nat) (f:Nat->Bool),vs=[.int N,.int p,.int n]/\p<n/\n<=8/\yP n N f/\∀R:Nat,yP n R (fun b=>f (zZ b p (!b.testBit p)))->Q (.int R) H
abbrev uP (r:List Bool):List V:=r.map fun b=>V.int (b.toNat:Nat)
theorem Tg {H:Hp}{p:Addr}(h:H p=none)(o:HO):Same H (upd H p o):=fun b u q=>by rw[zy (zx q h)];exact q
def Pb (K:Frag):Sp:=fun vs H Q _=>∃(l:Addr) (ns:List Int) (i:Int),vs=[.ref l,.int i]/\zT K H l (ns.map V.int)/\0<=i/\∀v:Int,Q (.int v) H
def Ma:Sp:=fun vs H Q _=>∃(c:Int) (k:Nat) (b:Int),vs=[.int c,.int k,.int b]/\k<=40/\0<b/\b<1073741824/\∀r:Int,0<=r->r<b->Q (.int r) H
def v8:List Str:=["a", "b", "c", "d", "e", "f", "g", "h"]
structure Kq (os:List Str):Prop where
 nd:os.Nodup
 mem:∀x∈os,x∈v8
 pos:0<os.length
theorem zdI {α:Type}[DecidableEq α]:∀{xs ys:List α},xs.Nodup->(∀x∈xs,x∈ys)->xs.length<=ys.length
 | [],_,_,_=>zuy _
 | x::xs,ys,nd,h=>by
  obtain⟨h1,h2⟩:=List.nodup_cons.mp nd
  have hx:=h x zuv
  have ih:=zdI (xs:=xs) (ys:=ys.erase x) h2 fun y hy=>(List.mem_erase_of_ne (fun e:y=x=>h1 (by rw[<-e];exact hy))).mpr (h y (zun _ hy))
  rw[List.length_erase_of_mem hx] at ih
  have:=List.length_pos_of_mem hx
  rw[zuo]
  omega
theorem zj0 {i:Nat}(h:i<8):∃c,atI (Str.ofString "abcdefgh").cps.toList (i:Int)=some c/\v8[i]?=some ⟨#[c]⟩:=by
 match i,h with
 | 0,_=>exact⟨97,by decide +kernel,by decide +kernel⟩
 | 1,_=>exact⟨98,by decide +kernel,by decide +kernel⟩
 | 2,_=>exact⟨99,by decide +kernel,by decide +kernel⟩
 | 3,_=>exact⟨100,by decide +kernel,by decide +kernel⟩
 | 4,_=>exact⟨101,by decide +kernel,by decide +kernel⟩
 | 5,_=>exact⟨102,by decide +kernel,by decide +kernel⟩
 | 6,_=>exact⟨103,by decide +kernel,by decide +kernel⟩
 | 7,_=>exact⟨104,by decide +kernel,by decide +kernel⟩
theorem zdJ:v8.Nodup:=by decide +kernel
theorem ziH {i:Nat}{y:Str}(h:v8[i]?=some y):y∉v8.take i:=fun hm=>by
 obtain⟨j,hj⟩:=List.getElem?_of_mem hm
 have hlt:j<i:=by
  have:=(zuf.mp hj).1
  rw[zuz] at this
  omega
 rw[List.getElem?_take_of_lt hlt] at hj
 have h1:=(zuf.mp hj)
 have h2:=(zuf.mp h)
 obtain⟨l1,e1⟩:=h1
 obtain⟨l2,e2⟩:=h2
 have:=(List.getElem_inj zdJ).mp (e1.trans e2.symm)
 omega
theorem Kq.le {os:List Str}(h:Kq os):os.length<=8:=zdI h.nd h.mem
def zgo:Sp:=fun vs H Q _=>∃(c:Int) (n:Nat),vs=[.int c,.int n]/\0<n/\n<=8/\∀(l:Addr) (H':Hp) (os:List Str),Same H H'->H' l=some (.lst (os.map V.str))->Kq os->os.length<=n->Q (.ref l) H'
def Sy (H:Hp):Sn->Addr->Prop
 | .c0 y,p=>H p=some (.tup [.str (Sn.word (.c0 y))])
 | .mk x,p=>H p=some (.tup [.str "mark", .str x])
 | .nt s,p=>∃q,H p=some (.tup [.str "not", .ref q])/\Sy H s q
 | .b2 o s t,p=>∃q r,H p=some (.tup [.str (w2 o),.ref q,.ref r])/\Sy H s q/\Sy H t r
 | .q1 o x s,p=>∃q,H p=some (.tup [.str (if o then "some" else "each"),.str x,.ref q])/\Sy H s q
def xq (H H':Hp):Prop:=∀b xs,H b=some (.tup xs)->H' b=some (.tup xs)
theorem xq.trans {H H1 H2:Hp}(a:xq H H1)(b:xq H1 H2):xq H H2:=fun c o h=>b c o (a c o h)
theorem xq.of {H H':Hp}(g:Same H H'):xq H H':=fun b xs h=>g b _ h
theorem xq.new {H:Hp}{p:Addr}(h:H p=none)(o:HO):xq H (upd H p o):=fun b u q=>by rw[zy (zx q h)];exact q
theorem xq.lst {H:Hp}{p:Addr}{xs:List V}(h:H p=some (.lst xs))(o:HO):xq H (upd H p o):=fun b u q=>by rw[zy (Yx q h (fun z=>nomatch z))];exact q
theorem Sy.mono {H H':Hp}(g:xq H H'):∀{s:Sn} {p:Addr},Sy H s p->Sy H' s p
 | .c0 y,p,h=>g _ _ h
 | .mk x,p,h=>g _ _ h
 | .nt s,p,⟨q,h,k⟩=>⟨q,g _ _ h,k.mono g⟩
 | .b2 o s t,p,⟨q,r,h,k,l⟩=>⟨q,r,g _ _ h,k.mono g,l.mono g⟩
 | .q1 o x s,p,⟨q,h,k⟩=>⟨q,g _ _ h,k.mono g⟩
theorem zj1 (o:Bool)(x:Str)(s:Sn):Sn.word (.q1 o x s)=if o then Str.ofString "some" else Str.ofString "each" := by cases o<;>rfl
theorem Sy.shape {H:Hp}:∀{s:Sn} {p:Addr},Sy H s p->∃qs:List Addr,H p=some (.tup (.str s.word::(s.letters.map V.str++qs.map V.ref)))/\Paired (Sy H) s.parts qs
 | .c0 y,p,h=>⟨[],h,.nil⟩
 | .mk x,p,h=>⟨[],h,.nil⟩
 | .nt s,p,⟨q,h,k⟩=>⟨[q],h,.cons k .nil⟩
 | .b2 o s t,p,⟨q,r,h,k,l⟩=>⟨[q,r],h,.cons k (.cons l .nil)⟩
 | .q1 o x s,p,⟨q,h,k⟩=>⟨[q],by rw[zj1];exact h,.cons k .nil⟩
theorem zcL {α:Type}{xs:List α}{i:Int}(h0:-(xs.length:Int)<=i)(h1:i<xs.length):∃(j:Nat) (v:α),atI xs i=some v/\xs[j]?=some v:=by
 by_cases h:0<=i
 ·have hj:i.toNat<xs.length:=by omega
  have q:=Zg (xs:=xs) (j:=i.toNat) (zud hj)
  have e:((i.toNat:Nat):Int)=i:=by omega
  rw[e] at q
  exact⟨_,_,q,zud hj⟩
 ·have hj:(i+xs.length).toNat<xs.length:=by omega
  refine⟨_,_,?_,zud hj⟩
  unfold atI ixN
  rw[if_neg h,if_pos h0]
  show xs[(i+xs.length).toNat]?=_
  exact zud hj
def Qe:List Str:=["mark", "mark", "not", "and", "or", "either", "if", "and", "or", "some", "each", "yes", "no", "mark"]
structure Made (H0 H:Hp)(os:List Str)(m kd:Addr)(ps:List Addr)(d:Nat):Prop where
 old:Same H0 H
 mad:H m=some (.lst (ps.map V.ref))
 kin:H kd=some (.lst (Qe.map V.str))
 ne:ps≠[]
 all:∀p∈ps,∃s,Sy H s p/\s.QK os/\s.depth<=d
theorem Made.push {H0 H:Hp}{os:List Str}{m kd p:Addr}{ps:List Addr}{d:Nat}{xs:List V}(M:Made H0 H os m kd ps d)(fm:H0 m=none)(hp:H p=none){s:Sn}(hs:Sy (upd H p (.tup xs)) s p)(ho:s.QK os)(hd:s.depth<=d+1)(hk:m≠kd) :
  Made H0 (upd (upd H p (.tup xs)) m (.lst ((ps++[p]).map V.ref))) os m kd (ps++[p]) (d+1):=by
 have hm:m≠p:=zx M.mad hp
 have hkp:kd≠p:=zx M.kin hp
 have mad':(upd H p (.tup xs)) m=some (.lst (ps.map V.ref)):=by rw[zy hm];exact M.mad
 have t1:xq H (upd H p (.tup xs)):=xq.new hp _
 have t2:xq (upd H p (.tup xs)) (upd (upd H p (.tup xs)) m (.lst ((ps++[p]).map V.ref))):=xq.lst mad' _
 refine⟨fun b o h=>?_,zf,?_,by simp,fun q hq=>?_⟩
 ·have h1:=M.old b o h
  rw[zy (zx h fm),zy (zx h1 hp)]
  exact h1
 ·rw[zy (Ne.symm hk),zy hkp];exact M.kin
 ·rcases List.mem_append.mp hq with z | z
  ·obtain⟨s',q1,q2,q3⟩:=M.all q z
   exact⟨s',(q1.mono t1).mono t2,q2,by omega⟩
  ·have z':q=p:=by simpa using z
   subst z'
   exact⟨s,hs.mono t2,ho,hd⟩
theorem Kr {os:List Str}(h0:0<os.length)(r:Int):∃x,x∈os/\atI (os.map V.str) (r%((os.map V.str).length:Nat))=some (.str x):=by
 have e:(os.map V.str).length=os.length:=zuc _
 have m0:0<=r%((os.map V.str).length:Nat):=zuT _ (by omega)
 have m1:r%((os.map V.str).length:Nat)<((os.map V.str).length:Nat):=zuQ _ (by omega)
 obtain⟨j,v,q1,q2⟩:=zcL (xs:=os.map V.str) (i:=r%((os.map V.str).length:Nat)) (by omega) m1
 rw[zue] at q2
 cases hx:os[j]? with
 | none=>rw[hx] at q2;cases q2
 | some x =>
  rw[hx] at q2
  cases q2
  exact⟨x,zuh hx,q1⟩
theorem Mf {ps:List Addr}{i:Int}(h0:-(ps.length:Int)<=i)(h1:i<ps.length):∃p,p∈ps/\atI (ps.map V.ref) i=some (.ref p):=by
 have e:(ps.map V.ref).length=ps.length:=zuc _
 obtain⟨j,v,q1,q2⟩:=zcL (xs:=ps.map V.ref) (i:=i) (by omega) (by omega)
 rw[zue] at q2
 cases hx:ps[j]? with
 | none=>rw[hx] at q2;cases q2
 | some x =>
  rw[hx] at q2
  cases q2
  exact⟨x,zuh hx,q1⟩
end
end Y9
namespace L2
open PySem
section
variable {α β:Type}{R S:α->β->Prop}
theorem ZR:∀{xs ys:List α} {us ws:List β},Paired R xs us->Paired R ys ws->Paired R (xs++ys) (us++ws)
 | _,_,_,_,.nil,s=>s
 | _,_,_,_,.cons r t,s=>.cons r (ZR t s)
theorem xX (f:∀a b,R a b->S a b):∀{xs:List α} {us:List β},Paired R xs us->Paired S xs us
 | _,_,.nil=>.nil
 | _,_,.cons r t=>.cons (f _ _ r) (xX f t)
theorem yp:∀{xs:List α} {us:List β},Paired R xs us->xs.length=us.length
 | _,_,.nil=>rfl
 | _,_,.cons _ t=>by rw[zuo,zuo,yp t]
theorem tY:∀{xs:List α} {us:List β} {i:Nat} {x:α},Paired R xs us->xs[i]?=some x->∃u,us[i]?=some u/\R x u
 | _,_,_,_,.nil,e=>by simp at e
 | _,_,0,_,.cons r _,e=>by simp at e;subst e;exact⟨_,rfl,r⟩
 | _,_,i+1,x,.cons _ t,e=>by
  obtain⟨u,h1,h2⟩:=tY (i:=i) (x:=x) t (by simpa using e)
  exact⟨u,by simpa using h1,h2⟩
theorem Pg:∀{xs:List α} {us:List β} {i:Nat} {u:β},Paired R xs us->us[i]?=some u->∃x,xs[i]?=some x/\R x u
 | _,_,_,_,.nil,e=>by simp at e
 | _,_,0,_,.cons r _,e=>by simp at e;subst e;exact⟨_,rfl,r⟩
 | _,_,i+1,x,.cons _ t,e=>by
  obtain⟨u,h1,h2⟩:=Pg (i:=i) (u:=x) t (by simpa using e)
  exact⟨u,by simpa using h1,h2⟩
theorem yZ {α:Type}{xs:List α}{i:Nat}{x:α}(h:xs[i]?=some x):xs.take (i+1)=xs.take i++[x]:=by
 rw[List.take_succ,h]
 rfl
theorem Same.zni {K:Frag}{H H':Hp}{a:Addr}{xs:List V}(e:Same H H')(h:wK K H a xs):wK K H' a xs:=by
 rcases h with (h | ⟨o,h⟩) | h
 ·exact .inl (.inl (e _ _ h))
 ·exact .inl (.inr ⟨o,e _ _ h⟩)
 ·exact .inr h
theorem Same.new {H:Hp}{p:Addr}(h:H p=none)(o:HO):Same H (upd H p o):=fun b u q=>by rw[zy (zx q h)];exact q
theorem Same.over {H H':Hp}{p:Addr}(g:Same H H')(h:H p=none)(o:HO):Same H (upd H' p o):=fun b u q=>by rw[zy (zx q h)];exact g b u q
theorem at0 {α:Type}{x:α}{xs:List α}:atI (x::xs) 0=some x:=Zg (j:=0) rfl
theorem at1 {α:Type}{x y:α}{xs:List α}:atI (x::y::xs) 1=some y:=Zg (j:=1) rfl
end
section
variable {K:Frag}{a:Addr}{xs:List V}{σ:St}{js:List Nat}{te:TE}{H:Hp}{Qf:Addr->Hp->List V->Prop}
theorem zcM (R:V->V->Prop)(hq:zT K H a xs)(hz:xs.length<=sizeLine)
  (hs:∀(i:Nat) x H',xs[i]?=some x->Same H H'->te (YM σ js (some x)) H' fun v H3=>R x v/\Same H H3)
  (me:∀ σ H Q Q',(∀v H1,Q v H1->Q' v H1)->te σ H Q->te σ H Q')
  (hd:∀ys H' p,Paired R xs ys->Same H H'->H' p=none->Qf p H' ys) :
  ∃W:Nat->Nat->List V->Hp->Prop,(∃m,W 0 m [] H)/\∀i m ys H,W i m ys H ->
   ((Itl K a).stop i H/\∀p,H p=none->Qf p H ys) \/
   ((Itl K a).go i H/\ys.length<sizeLine/\∀x H',(Itl K a).Jb i H x H'->Qd (YM σ js (some x)) H' fun b H2 =>
    if b=true then te (YM σ js (some x)) H2 fun v H3=>∃m',m'<m/\W (i+1) m' (ys++[v]) H3 else ∃m',m'<m/\W (i+1) m' ys H2):=by
 refine Q7 (fun i ys H'=>Same H H'/\Paired R (xs.take i) ys) ⟨Same.refl _,.nil⟩ hz ?_ ?_ (fun _ _ _ _ h q=>h _ _ q) me ?_
 ·rintro i ys H' hi ⟨g,r⟩
  have:=yp r
  rw[zuz] at this
  exact⟨g.seq hq,by omega⟩
 ·rintro i x ys H' hx ⟨g,r⟩
  show te (YM σ js (some x)) H' fun v H3=>Same H H3/\Paired R (xs.take (i+1)) (ys++[v])
  refine me _ _ _ _ (fun v H3 h3=>⟨h3.2,?_⟩) (hs i x H' hx g)
  rw[yZ hx]
  exact ZR r (.cons h3.1 .nil)
 ·rintro ys H' p ⟨g,r⟩ hp
  rw[zuE] at r
  exact hd ys H' p r g hp
theorem zgp (R:V->V->Prop)(hq:wK K H a xs)(hz:xs.length<=sizeLine)
  (hs:∀(i:Nat) x H',xs[i]?=some x->Same H H'->te (YM σ js (some x)) H' fun v H3=>R x v/\Same H H3)
  (me:∀ σ H Q Q',(∀v H1,Q v H1->Q' v H1)->te σ H Q->te σ H Q')
  (hd:∀ys H' p,Paired R xs ys->Same H H'->H' p=none->Qf p H' ys) :
  ∃W:Nat->Nat->List V->Hp->Prop,(∃m,W 0 m [] H)/\∀i m ys H,W i m ys H ->
   ((Itt K a).stop i H/\∀p,H p=none->Qf p H ys) \/
   ((Itt K a).go i H/\ys.length<sizeLine/\∀x H',(Itt K a).Jb i H x H'->Qd (YM σ js (some x)) H' fun b H2 =>
    if b=true then te (YM σ js (some x)) H2 fun v H3=>∃m',m'<m/\W (i+1) m' (ys++[v]) H3 else ∃m',m'<m/\W (i+1) m' ys H2):=by
 refine zis (fun i ys H'=>Same H H'/\Paired R (xs.take i) ys) ⟨Same.refl _,.nil⟩ hz ?_ ?_ (fun _ _ _ _ h q=>h _ _ q) me ?_
 ·rintro i ys H' hi ⟨g,r⟩
  have:=yp r
  rw[zuz] at this
  exact⟨g.zni hq,by omega⟩
 ·rintro i x ys H' hx ⟨g,r⟩
  show te (YM σ js (some x)) H' fun v H3=>Same H H3/\Paired R (xs.take (i+1)) (ys++[v])
  refine me _ _ _ _ (fun v H3 h3=>⟨h3.2,?_⟩) (hs i x H' hx g)
  rw[yZ hx]
  exact ZR r (.cons h3.1 .nil)
 ·rintro ys H' p ⟨g,r⟩ hp
  rw[zuE] at r
  exact hd ys H' p r g hp
theorem Mg {f:V->V}:∀{xs ys:List V},Paired (fun x v=>v=f x) xs ys->ys=xs.map f
 | _,_,.nil=>rfl
 | _,_,.cons r t=>by rw[zuA,r,Mg t]
end
section
variable {X:Cx}{K:Frag}{a:Expr}{ta:TE}
theorem zlS (h:X.K=K):U0 X (compareOp .In) (rIn K false):=by subst h;exact Sv
theorem zcN (h:X.K=K):Wc X (.builtin "isinstance") (fun xs H Q=>∃x T t b,xs=[x,.ty T]/\QT K H x t/\PySem.W.kitOne K t (.type T)=some b/\Q (.bl b) H):=by subst h;exact Km
theorem Ph (h:X.K=K):IxR X (zlD K):=by subst h;exact vh
def Mh (sp:Sp):Prop:=∀vs H Q Q' E,(∀v H1,Q v H1->Q' v H1)->sp vs H Q E->sp vs H Q' E
theorem zgq {sp:Sp}(m:Mh sp):∀ σ H Q Q',(∀v H1,Q v H1->Q' v H1)->zbN sp [] E0 (U8 (JH 0) zbj) σ H Q->zbN sp [] E0 (U8 (JH 0) zbj) σ H Q' :=
 fun σ H Q Q' h ⟨v,e,q⟩=>⟨v,e,m _ _ _ _ _ h q⟩
theorem zdK (x:Str)(ts:List Str):inV (.str x) (ts.map V.str)=decide (x∈ts):=by
 induction ts with
 | nil=>rfl
 | cons t r ih =>
  have e:inV (.str x) ((t::r).map V.str)=((t==x)||inV (.str x) (r.map V.str)):=rfl
  rw[e,ih]
  by_cases h:t=x
  ·subst h;simp
  ·have h':¬x=t:=fun z=>h z.symm
   simp[h,h']
theorem W9 (ts:List Str):(ts.map V.str).all vP=true:=by
 rw[List.all_map,zuF]
 exact fun _ _=>rfl
theorem ziI {w:V}{rest:List V}{m n:Nat}(h:rest.length=m+n):Qa (w::rest) (some 1) (some (1+(m:Int)))=rest.take m:=by
 have e1:HT.Zf (w::rest).length 0 (some 1)=min 1 (w::rest).length:=HT.Vt _ _ 1
 have e2:HT.Zf (w::rest).length (w::rest).length (some (1+(m:Int)))=min (1+m) (w::rest).length:=by
  have z:(1:Int)+(m:Int)=((1+m:Nat):Int):=by omega
  rw[z];exact HT.Vt _ _ _
 have l:(w::rest).length=m+n+1:=by rw[zuo,h]
 unfold Qa
 rw[e1,e2,l,Nat.min_eq_left (by omega),Nat.min_eq_left (by omega),List.drop_one,List.tail_cons]
 congr 1
 omega
theorem ziJ {w:V}{rest:List V}{m n:Nat}(h:rest.length=m+n):Qa (w::rest) (some (1+(m:Int))) none=rest.drop m:=by
 have e2:HT.Zf (w::rest).length 0 (some (1+(m:Int)))=min (1+m) (w::rest).length:=by
  have z:(1:Int)+(m:Int)=((1+m:Nat):Int):=by omega
  rw[z];exact HT.Vt _ _ _
 have l:(w::rest).length=m+n+1:=by rw[zuo,h]
 unfold Qa
 rw[e2,HT.zdA,l,Nat.min_eq_left (by omega),Nat.add_comm 1 m,List.drop_succ_cons,List.take_of_length_le]
 rw[List.length_drop,h]
 omega
theorem J7 {w:V}{rest:List V}{i:Int}{o:Option Int}(h:1<=i):¬(HT.Zf (w::rest).length 0 (some i)=0/\HT.Zf (w::rest).length (w::rest).length o=(w::rest).length):=by
 rintro⟨h1,_⟩
 have e:HT.Zf (w::rest).length 0 (some i)=min i.toNat (w::rest).length:=by
  have z:=HT.Vt (w::rest).length 0 i.toNat
  have z2:((i.toNat:Nat):Int)=i:=by omega
  rw[z2] at z
  exact z
 rw[e,zuo] at h1
 omega
end
end L2
namespace Y9
open PySem L2
section
variable {K:Frag}
def Sn.all:Sn->List Str
 | .c0 _=>[]
 | .mk x=>[x]
 | .nt s=>s.all
 | .b2 _ s t=>s.all++t.all
 | .q1 _ x s=>x::s.all
theorem Sn.zcO:∀(s:Sn) (x:Str),x∈s.all↔x∈s.letters\/∃t∈s.parts,x∈t.all
 | .c0 _,x=>by simp[Sn.all,Sn.letters,Sn.parts]
 | .mk y,x=>by simp[Sn.all,Sn.letters,Sn.parts]
 | .nt s,x=>by simp[Sn.all,Sn.letters,Sn.parts]
 | .b2 _ s t,x=>by simp[Sn.all,Sn.letters,Sn.parts]
 | .q1 _ y s,x=>by simp[Sn.all,Sn.letters,Sn.parts]
theorem Sn.Vw {os:List Str}:∀(s:Sn),s.QK os↔∀x∈s.all,x∈os
 | .c0 _=>by simp[Sn.all,Sn.QK]
 | .mk y=>by simp[Sn.all,Sn.QK]
 | .nt s=>by simp only[Sn.all,Sn.QK];exact Sn.Vw s
 | .b2 _ s t=>by
  simp only[Sn.all,Sn.QK,List.mem_append]
  rw[Sn.Vw s,Sn.Vw t]
  exact⟨fun h x hx=>hx.elim (h.1 x) (h.2 x),fun h=>⟨fun x hx=>h x (.inl hx),fun x hx=>h x (.inr hx)⟩⟩
 | .q1 _ y s=>by
  simp only[Sn.all,Sn.QK,List.mem_cons]
  rw[Sn.Vw s]
  exact⟨fun h x hx=>hx.elim (fun e=>by rw[e];exact h.1) (h.2 x),fun h=>⟨h y (.inl rfl),fun x hx=>h x (.inr hx)⟩⟩
theorem Sn.Pj:∀s:Sn,s.parts.length<=2
 | .c0 _=>by simp[Sn.parts]
 | .mk _=>by simp[Sn.parts]
 | .nt _=>by simp[Sn.parts]
 | .b2 _ _ _=>by simp[Sn.parts]
 | .q1 _ _ _=>by simp[Sn.parts]
theorem Sn.J8:∀s:Sn,s.letters.length<=1
 | .c0 _=>by simp[Sn.letters]
 | .mk _=>by simp[Sn.letters]
 | .nt _=>by simp[Sn.letters]
 | .b2 _ _ _=>by simp[Sn.letters]
 | .q1 _ _ _=>by simp[Sn.letters]
def cnt (ss:List Sn):Nat:=(ss.map Sn.count).sum
theorem cnt_cons (s:Sn)(ss:List Sn):cnt (s::ss)=s.count+cnt ss:=rfl
theorem zj2 (ss ts:List Sn):cnt (ss++ts)=cnt ss+cnt ts:=by
 unfold cnt;rw[zuq,List.sum_append]
theorem SJ:∀ss:List Sn,cnt ss=ss.length+cnt (ss.flatMap Sn.parts)
 | []=>rfl
 | s::ss=>by
  rw[cnt_cons,List.flatMap_cons,zj2,SJ ss,Sn.Kp s,zuo]
  show 1+cnt s.parts+_=_
  omega
theorem zgr (ss:List Sn):ss.length<=cnt ss:=by rw[SJ];omega
theorem Mi {ss:List Sn}{t:Sn}:t∈ss.flatMap Sn.parts↔∃s∈ss,t∈s.parts:=List.mem_flatMap
def Va:Sp:=fun vs H Q _=>∃x:Str,vs=[.str x]/\Q (.bl (decide (x∈v8))) H
theorem Ks:Mh Va:=fun vs H Q Q' E h ⟨x,e,q⟩=>⟨x,e,h _ _ q⟩
def zcP (os:List Str):Bool:=decide (0<os.length)&&(os.all (fun x=>decide (x∈v8))&&decide os.Nodup)
theorem zj3 {os:List Str}(h:Kq os):zcP os=true:=by
 unfold zcP
 rw[decide_eq_true h.pos,decide_eq_true h.nd,zuF.mpr fun x hx=>decide_eq_true (h.mem x hx)]
 rfl
def zbY (K:Frag):Sp:=fun vs H Q _=>∃(l:Addr) (os:List Str),vs=[.ref l]/\zT K H l (os.map V.str)/\os.length<=100/\∀H',Same H H'->Q (.bl (zcP os)) H'
def zdL (n:Nat)(ns:List Int):Bool:=decide (ns.length=n)&&ns.all (fun i=>i==0||i==1)
def Jr (K:Frag):Sp:=fun vs H Q _=>∃(l r:Addr) (xs:List V) (ns:List Int),vs=[.ref l,.ref r]/\zT K H l xs/\zT K H r (ns.map V.int)/\ns.length<=1000/\∀H',Same H H'->Q (.bl (zdL xs.length ns)) H'
def xJ:List (Str×Int×Int):=[("yes", 0,0),("no", 0,0),("mark", 1,0),("not", 0,1),("and", 0,2),("or", 0,2),("either", 0,2),("if", 0,2),("some", 1,1),("each", 1,1)]
theorem Zj (s:Sn):(s.word,((s.letters.length:Nat):Int),((s.parts.length:Nat):Int))∈xJ:=by
 cases s with
 | c0 y =>
  cases y
  ·show((Str.ofString "no", (0:Int),(0:Int)):Str×Int×Int)∈xJ
   decide +kernel
  ·show((Str.ofString "yes", (0:Int),(0:Int)):Str×Int×Int)∈xJ
   decide +kernel
 | mk x =>
  show((Str.ofString "mark", (1:Int),(0:Int)):Str×Int×Int)∈xJ
  decide +kernel
 | nt s =>
  show((Str.ofString "not", (0:Int),(1:Int)):Str×Int×Int)∈xJ
  decide +kernel
 | b2 o s t =>
  show((w2 o,(0:Int),(2:Int)):Str×Int×Int)∈xJ
  revert o
  decide +kernel
 | q1 o x s =>
  cases o
  ·show((Str.ofString "each", (1:Int),(1:Int)):Str×Int×Int)∈xJ
   decide +kernel
  ·show((Str.ofString "some", (1:Int),(1:Int)):Str×Int×Int)∈xJ
   decide +kernel
def YC:Sp:=fun vs H Q _=>∃(p:Addr) (x:Str) (m n:Nat) (rest:List V),vs=[.ref p]/\H p=some (.tup (.str x::rest))/\(x,(m:Int),(n:Int))∈xJ/\rest.length=m+n/\∀q,H q=none->Q (.ref q) (upd H q (.tup (rest.take m)))
def ZS:Sp:=fun vs H Q _=>∃(p:Addr) (x:Str) (m n:Nat) (rest:List V),vs=[.ref p]/\H p=some (.tup (.str x::rest))/\(x,(m:Int),(n:Int))∈xJ/\rest.length=m+n/\∀q,H q=none->Q (.ref q) (upd H q (.tup (rest.drop m)))
theorem Pk {H:Hp}{s:Sn}{p:Addr}(h:Sy H s p):∃qs:List Addr,H p=some (.tup (.str s.word::(s.letters.map V.str++qs.map V.ref)))/\Paired (Sy H) s.parts qs /\
  (s.letters.map V.str++qs.map V.ref).length=s.letters.length+s.parts.length/\(s.letters.map V.str++qs.map V.ref).take s.letters.length=s.letters.map V.str/\(s.letters.map V.str++qs.map V.ref).drop s.letters.length=qs.map V.ref:=by
 obtain⟨qs,h1,h2⟩:=h.shape
 have l:=yp h2
 refine⟨qs,h1,h2,by simp[l],?_,?_⟩
 ·rw[List.take_append_of_le_length (by simp),List.take_of_length_le (by simp)]
 ·rw[List.drop_append_of_le_length (by simp),List.drop_of_length_le (by simp)]
  rfl
def Xa (K:Frag):Sp:=fun vs H Q _=>∃(l:Addr) (ss:List Sn) (ps:List Addr),vs=[.ref l]/\zT K H l (ps.map V.ref)/\Paired (Sy H) ss ps/\ss.length<=400 /\
 ∀(l':Addr) (H':Hp) (ps':List Addr),Same H H'->H l'=none->H' l'=some (.lst (ps'.map V.ref))->Paired (Sy H') (ss.flatMap Sn.parts) ps'->Q (.ref l') H'
def J9:Sp:=fun vs H Q _=>∃(p:Addr) (s:Sn),vs=[.ref p]/\Sy H s p/\(∀x∈s.letters,x∈v8)/\∀H',Same H H'->Q (.bl true) H'
theorem zdM:Mh J9:=fun vs H Q Q' E h ⟨p,s,e,h1,h2,q⟩=>⟨p,s,e,h1,h2,fun H' g=>h _ _ (q H' g)⟩
abbrev VC (sn:Sn)(zs:List Addr):List V:=V.str sn.word::(sn.letters.map V.str++zs.map V.ref)
def zgs:Sp:=fun vs H Q _=>∃(p:Addr) (s:Sn),vs=[.ref p]/\Sy H s p/\s.QK v8/\s.count<=200/\s.depth<=24/\∀H',Same H H'->Q (.bl true) H'
def Ku (K:Frag):Sp:=fun vs H Q _=>∃(l:Addr) (os:List Str),vs=[.ref l]/\zT K H l (os.map V.str)/\Kq os/\∀H',Same H H'->Q .non H'
def zbZ:Sp:=fun vs H Q _=>∃(p:Addr) (s:Sn),vs=[.ref p]/\Sy H s p/\s.QK v8/\s.count<=200/\s.depth<=24/\∀H',Same H H'->Q .non H'
def zb0 (K:Frag):Sp:=fun vs H Q _=>∃(l r:Addr) (xs:List V) (ns:List Int),vs=[.ref l,.ref r]/\zT K H l xs/\zT K H r (ns.map V.int)/\ns.length<=1000/\zdL xs.length ns=true/\∀H',Same H H'->Q .non H'
def zaa:Sp:=fun vs H Q _=>∃(p:Addr) (s:Sn),vs=[.ref p]/\Sy H s p/\s.count<=400/\∀(l:Addr) (H':Hp) (ts:List Sn) (ps:List Addr),Same H H'->H l=none->H' l=some (.lst (ps.map V.ref))->Paired (Sy H') ts ps ->
 ts.length=s.count->(∀x,(∃t∈ts,x∈t.letters)↔x∈s.all)->Q (.ref l) H'
def Kv:Sp:=fun vs H Q _=>∃(p:Addr) (s:Sn),vs=[.ref p]/\Sy H s p/\s.count<=400/\∀(l:Addr) (H':Hp) (xs:List Str),Same H H'->H l=none->H' l=some (.lst (xs.map V.str))->(∀x,x∈xs↔x∈s.all)->xs.length<=400->Q (.ref l) H'
def Vx (K:Frag):Sp:=fun vs H Q _=>∃(l:Addr) (x:Str) (os:List Str),vs=[.ref l,.str x]/\zT K H l (os.map V.str)/\x∈os/\Q .non H
def Kw (K:Frag):Sp:=fun vs H Q _=>∃(l p:Addr) (os:List Str) (s:Sn),vs=[.ref l,.ref p]/\zT K H l (os.map V.str)/\Sy H s p/\s.count<=400/\s.QK os/\∀H',Same H H'->Q .non H'
end
end Y9
namespace L2
open PySem
section
variable {K:Frag}{a:Addr}{xs:List V}{σ:St}{js:List Nat}{te:TE}{H:Hp}{Qf:Addr->Hp->List V->Prop}
theorem zgt (R:Nat->V->Prop)(hq:wK K H a xs)(hz:xs.length<=sizeLine)
  (hs:∀(i:Nat) x H',xs[i]?=some x->Same H H'->te (YM σ js (some x)) H' fun v H3=>R i v/\Same H H3)
  (me:∀ σ H Q Q',(∀v H1,Q v H1->Q' v H1)->te σ H Q->te σ H Q')
  (hd:∀ys H' p,ys.length=xs.length->(∀(j:Nat) v,ys[j]?=some v->R j v)->Same H H'->H' p=none->Qf p H' ys) :
  ∃W:Nat->Nat->List V->Hp->Prop,(∃m,W 0 m [] H)/\∀i m ys H,W i m ys H ->
   ((Itt K a).stop i H/\∀p,H p=none->Qf p H ys) \/
   ((Itt K a).go i H/\ys.length<sizeLine/\∀x H',(Itt K a).Jb i H x H'->Qd (YM σ js (some x)) H' fun b H2 =>
    if b=true then te (YM σ js (some x)) H2 fun v H3=>∃m',m'<m/\W (i+1) m' (ys++[v]) H3 else ∃m',m'<m/\W (i+1) m' ys H2):=by
 refine zis (fun i ys H'=>Same H H'/\ys.length=i/\∀(j:Nat) v,ys[j]?=some v->R j v) ⟨Same.refl _,rfl,fun j v h=>by simp at h⟩ hz ?_ ?_ (fun _ _ _ _ h q=>h _ _ q) me ?_
 ·rintro i ys H' hi ⟨g,e,r⟩
  exact⟨g.zni hq,by omega⟩
 ·rintro i x ys H' hx ⟨g,e,r⟩
  show te (YM σ js (some x)) H' fun v H3=>Same H H3/\(ys++[v]).length=i+1/\∀(j:Nat) u,(ys++[v])[j]?=some u->R j u
  refine me _ _ _ _ (fun v H3 h3=>⟨h3.2,by rw[zuk,e];rfl,fun j u hj=>?_⟩) (hs i x H' hx g)
  by_cases hlt:j<ys.length
  ·rw[zuI hlt] at hj
   exact r j u hj
  ·rw[List.getElem?_append_right (by omega)] at hj
   have hj0:j-ys.length=0:=by
    have:=(zuf.mp hj).1
    rw[zuJ] at this
    omega
   rw[hj0] at hj
   have ev:v=u:=zuG hj
   have ej:j=i:=by omega
   rw[<-ev,ej]
   exact h3.1
 ·rintro ys H' p ⟨g,e,r⟩ hp
  exact hd ys H' p e r g hp
theorem znj {sp:Sp}(m:Mh sp):∀ σ H Q Q',(∀v H1,Q v H1->Q' v H1)->zbN sp [] E0 (U8 (JH 0) (U8 (JH 1) zbj)) σ H Q->zbN sp [] E0 (U8 (JH 0) (U8 (JH 1) zbj)) σ H Q' :=
 fun σ H Q Q' h ⟨v,e,u,e',q⟩=>⟨v,e,u,e',m _ _ _ _ _ h q⟩
theorem ne_str {x y:Str}(h:x≠y):¬decide (V.str x=V.str y)=true:=fun z=>h (by have:=of_decide_eq_true z;injection this)
theorem len1 {α:Type}{ys:List α}(h:ys.length=1):∃v,ys=[v]:=by
 match ys,h with
 | [v],_=>exact⟨v,rfl⟩
theorem len2 {α:Type}{ys:List α}(h:ys.length=2):∃v u,ys=[v,u]:=by
 match ys,h with
 | [v,u],_=>exact⟨v,u,rfl⟩
end
end L2
namespace Y9
open PySem L2
section
variable {K:Frag}
def ix (os:List Str)(x:Str):Nat:=os.findIdx (·==x)
theorem Vy:∀{os:List Str} {x:Str},x∈os->(os.map V.str).findIdx? (fun z=>eqV z (.str x))=some (ix os x)/\ix os x<os.length/\os[ix os x]?=some x
 | t::r,x,h=>by
  unfold ix
  rw[zuA,List.findIdx?_cons,List.findIdx_cons]
  show(if (t==x)=true then some 0 else _)=_/\_
  by_cases e:t=x
  ·subst e
   simp
  ·have hb:(t==x)=false:=by simpa using e
   have hr:x∈r:=by
    rcases List.mem_cons.mp h with z | z
    ·exact absurd z.symm e
    ·exact z
   obtain⟨h1,h2,h3⟩:=Vy hr
   rw[hb,h1]
   unfold ix at h2 h3 ⊢
   refine⟨rfl,?_,?_⟩
   ·show(r.findIdx (·==x))+1<(t::r).length
    rw[zuo];omega
   ·show(t::r)[(r.findIdx (·==x))+1]?=some x
    rw[List.getElem?_cons_succ];exact h3
theorem ziK {os:List Str}{x y:Str}(hx:x∈os)(hy:y∈os):ix os y=ix os x↔y=x:=by
 constructor
 ·intro e
  have h1:=(Vy hx).2.2
  have h2:=(Vy hy).2.2
  rw[e,h1] at h2
  exact(zuG h2).symm
 ·intro e;rw[e]
def Ry (os:List Str)(b:Nat):Str->Bool:=fun x=>b.testBit (ix os x)
theorem Js {os:List Str}{s:Sn}{x:Str}(hs:s.QK os)(hx:x∈os)(b:Nat)(v:Bool):s.val (fun y=>if y=x then v else Ry os b y)=s.val (Ry os (zZ b (ix os x) v)):=by
 refine Sn.val_congr s hs fun y hy=>?_
 show _=(zZ b (ix os x) v).testBit (ix os y)
 rw[yd]
 by_cases e:y=x
 ·rw[if_pos e,if_pos ((ziK hx hy).mpr e)]
 ·rw[if_neg e,if_neg (fun z=>e ((ziK hx hy).mp z))]
  rfl
theorem wj (b p:Nat):zZ b p (b.testBit p)=b:=by unfold zZ;rw[if_pos rfl]
theorem ziL {os:List Str}{s:Sn}{x:Str}(hs:s.QK os)(hx:x∈os)(b:Nat):(Sn.q1 true x s).val (Ry os b)=(s.val (Ry os b)||s.val (Ry os (zZ b (ix os x) (!b.testBit (ix os x))))):=by
 show(s.val (fun y=>if y=x then true else Ry os b y)||s.val (fun y=>if y=x then false else Ry os b y))=_
 rw[Js hs hx,Js hs hx]
 have z:=wj b (ix os x)
 cases hb:b.testBit (ix os x)
 ·rw[hb] at z;rw[z];exact Bool.or_comm _ _
 ·rw[hb] at z;rw[z];rfl
theorem ziM {os:List Str}{s:Sn}{x:Str}(hs:s.QK os)(hx:x∈os)(b:Nat):(Sn.q1 false x s).val (Ry os b)=(s.val (Ry os b)&&s.val (Ry os (zZ b (ix os x) (!b.testBit (ix os x))))):=by
 show(s.val (fun y=>if y=x then true else Ry os b y)&&s.val (fun y=>if y=x then false else Ry os b y))=_
 rw[Js hs hx,Js hs hx]
 have z:=wj b (ix os x)
 cases hb:b.testBit (ix os x)
 ·rw[hb] at z;rw[z];exact Bool.and_comm _ _
 ·rw[hb] at z;rw[z];rfl
def TabOf (os:List Str)(s:Sn)(N:Nat):Prop:=yP os.length N (fun b=>s.val (Ry os b))
theorem znk:∀o,w2 o≠Str.ofString "no" := by decide +kernel
theorem zlT:∀o,w2 o≠Str.ofString "yes" := by decide +kernel
theorem zj4:∀o,w2 o≠Str.ofString "mark" := by decide +kernel
theorem zlU:∀o,w2 o≠Str.ofString "not" := by decide +kernel
theorem zj5:∀o,w2 o≠Str.ofString "some" := by decide +kernel
theorem zj6:∀o,w2 o≠Str.ofString "each" := by decide +kernel
theorem zpf (o:Fin 4):o=0\/o=1\/o=2\/o=3:=by
 match o with
 | 0=>exact .inl rfl
 | 1=>exact .inr (.inl rfl)
 | 2=>exact .inr (.inr (.inl rfl))
 | 3=>exact .inr (.inr (.inr rfl))
def zdN:Sp:=fun vs H Q _=>∃(o:Fin 4) (N M n:Nat) (f g:Nat->Bool),vs=[.str (w2 o),.int N,.int M,.int ((2^2^n-1:Nat):Int)]/\yP n N f/\yP n M g/\∀R:Nat,yP n R (fun b=>Sn.op2 o (f b) (g b))->Q (.int R) H
def SM (K:Frag)(d:Nat):Sp:=fun vs H Q _=>∃(p l:Addr) (s:Sn) (os:List Str),vs=[.ref p,.ref l]/\Sy H s p/\zT K H l (os.map V.str)/\s.QK os/\os.length<=8/\s.depth<=d/\∀(N:Nat) (H':Hp),Same H H'->TabOf os s N->Q (.int N) H'
theorem zfc (d:Nat):Mh (SM K d):=fun vs H Q Q' E h ⟨p,l,s,os,e,h1,h2,h3,h4,h5,q⟩=>⟨p,l,s,os,e,h1,h2,h3,h4,h5,fun N H' g z=>h _ _ (q N H' g z)⟩
theorem zhe (r:List Bool):uP r=(r.map fun b=>((b.toNat:Nat):Int)).map V.int:=by rw[zuN];rfl
theorem zfd (r:List Bool){n:Nat}(h:r.length=n):zdL n (r.map fun b=>((b.toNat:Nat):Int))=true:=by
 unfold zdL
 rw[zuc,decide_eq_true h,List.all_map,Bool.true_and,zuF]
 intro b _
 cases b<;>rfl
def ziN (K:Frag):Sp:=fun vs H Q _=>∃(a:Addr) (ns:List Int),vs=[.ref a]/\zT K H a (ns.map V.int)/\ns.length<=63/\∀H',Q (.bl true) H'
end
end Y9
namespace L2
open PySem PySem.Spec PyProof.Rows
section
variable {κ:Type}[DecidableEq κ]
def vm (kvs:List (κ×V))(k:κ):Option V:=(kvs.find? fun kv=>decide (kv.1=k)).map (·.2)
def putK (kvs:List (κ×V))(k:κ)(v:V):List (κ×V) :=
 if (kvs.any fun kv=>decide (kv.1=k))=true then kvs.map (fun kv=>if kv.1=k then (kv.1,v) else kv) else kvs++[(k,v)]
theorem vo {p:κ×V}{r:List (κ×V)}{k:κ}(e:p.1=k):vm (p::r) k=some p.2:=by simp[vm,List.find?_cons,e]
theorem wN {p:κ×V}{r:List (κ×V)}{k:κ}(e:¬p.1=k):vm (p::r) k=vm r k:=by simp[vm,List.find?_cons,e]
theorem Ti (k:κ):∀kvs:List (κ×V),(kvs.any fun kv=>decide (kv.1=k))=(vm kvs k).isSome
 | []=>rfl
 | p::r=>by
  rw[List.any_cons]
  by_cases e:p.1=k
  ·simp only[vo e,decide_eq_true e,Bool.true_or,Option.isSome_some]
  ·rw[wN e,decide_eq_false e,Bool.false_or];exact Ti k r
theorem zdO (k j:κ)(y:V):∀kvs:List (κ×V),vm (kvs.map fun kv=>if kv.1=k then (kv.1,y) else kv) j=(vm kvs j).map fun x=>if j=k then y else x
 | []=>rfl
 | p::r=>by
  have ih:=zdO k j y r
  rw[zuA]
  by_cases h:p.1=k
  ·rw[if_pos h]
   by_cases e:p.1=j
   ·rw[vo (p:=(p.1,y)) e,vo e,Option.map_some,if_pos (e.symm.trans h)]
   ·rw[wN (p:=(p.1,y)) e,wN e,ih]
  ·rw[if_neg h]
   by_cases e:p.1=j
   ·rw[vo (p:=p) e,vo e,Option.map_some,if_neg (fun z=>h (e.trans z))]
   ·rw[wN (p:=p) e,wN e,ih]
theorem zb1 (k j:κ)(y:V):∀kvs:List (κ×V),vm kvs k=none->vm (kvs++[(k,y)]) j=if j=k then some y else vm kvs j
 | [],_=>by
  by_cases e:k=j
  ·rw[if_pos e.symm];exact vo (p:=(k,y)) e
  ·rw[if_neg (fun z=>e z.symm)];exact wN (p:=(k,y)) e
 | p::r,hn=>by
  rw[List.cons_append]
  have hk:¬p.1=k:=fun z=>by rw[vo z] at hn;cases hn
  rw[wN hk] at hn
  have ih:=zb1 k j y r hn
  by_cases e:p.1=j
  ·rw[vo e,vo e,if_neg (fun z=>hk (e.trans z))]
  ·rw[wN e,wN e,ih]
theorem zab (kvs:List (κ×V))(k j:κ)(y:V):vm (putK kvs k y) j=if j=k then some y else vm kvs j:=by
 unfold putK
 by_cases a:(kvs.any fun kv=>decide (kv.1=k))=true
 ·rw[if_pos a,zdO]
  rw[Ti] at a
  by_cases e:j=k
  ·obtain⟨x,hx⟩:=Option.isSome_iff_exists.mp a
   rw[if_pos e,e,hx,Option.map_some,if_pos rfl]
  ·rw[if_neg e]
   cases vm kvs j with
   | none=>rfl
   | some x=>rw[Option.map_some,if_neg e]
 ·rw[if_neg a]
  refine zb1 k j y kvs ?_
  rw[Ti] at a
  cases q:vm kvs k with
  | none=>rfl
  | some x=>rw[q] at a;exact(a rfl).elim
theorem Wh (kvs:List (κ×V))(k:κ)(v:V):(putK kvs k v).length<=kvs.length+1:=by
 unfold putK
 split
 ·rw[zuc];omega
 ·rw[zuk,zuo,List.length_nil];omega
theorem zac {kvs:List (κ×V)}{k:κ}(v:V)(h:vm kvs k=none):putK kvs k v=kvs++[(k,v)]:=by
 unfold putK
 rw[Ti,h]
 exact if_neg (by decide)
theorem Rv.Mj {o:Option V}{u:Option Value}(r:Rv o u):o.isSome=u.isSome:=by
 cases o with
 | none=>cases u with
  | none=>rfl
  | some _=>exact(show False from r).elim
 | some _=>cases u with
  | none=>exact(show False from r).elim
  | some _=>rfl
theorem KV.val {kvs:List (κ×V)}{vs:List (κ×Value)}(r:KV kvs vs)(k:κ):Rv (vm kvs k) (valueAt vs k):=by
 unfold KV at r
 induction r with
 | nil=>exact True.intro
 | @cons p q ps qs h t ih =>
  obtain⟨h1,h2⟩:=h
  by_cases e:p.1=k
  ·have e':q.1=k:=h1.symm.trans e
   have b:valueAt (q::qs) k=some q.2:=by simp[valueAt,List.find?_cons,e']
   rw[vo e,b];exact h2
  ·have e':¬q.1=k:=fun z=>e (h1.trans z)
   have b:valueAt (q::qs) k=valueAt qs k:=by simp[valueAt,List.find?_cons,e']
   rw[wN e,b];exact ih
theorem KV.any {kvs:List (κ×V)}{vs:List (κ×Value)}(r:KV kvs vs)(k:κ):(kvs.any fun kv=>decide (kv.1=k))=vs.any fun kv=>decide (kv.1=k):=by
 unfold KV at r
 induction r with
 | nil=>rfl
 | cons h t ih=>rw[List.any_cons,List.any_cons,ih,h.1]
theorem KV.repl {kvs:List (κ×V)}{vs:List (κ×Value)}(r:KV kvs vs)(k:κ){y:V}{u:Value}(ry:RelV y u) :
  KV (kvs.map fun kv=>if kv.1=k then (kv.1,y) else kv) (vs.map fun kv=>if kv.1=k then (kv.1,u) else kv):=by
 unfold KV at r ⊢
 induction r with
 | nil=>exact .nil
 | @cons p q ps qs h t ih =>
  rw[zuA,zuA]
  refine .cons ?_ ih
  obtain⟨h1,h2⟩:=h
  by_cases e:p.1=k
  ·rw[if_pos e,if_pos (h1.symm.trans e)];exact⟨h1,ry⟩
  ·rw[if_neg e,if_neg (fun z=>e (h1.trans z))];exact⟨h1,h2⟩
theorem KV.put {kvs:List (κ×V)}{vs:List (κ×Value)}(r:KV kvs vs)(k:κ){y:V}{u:Value}(ry:RelV y u):KV (putK kvs k y) (stored vs k u):=by
 unfold putK stored
 rw[r.any k]
 by_cases e:(vs.any fun kv=>decide (kv.1=k))=true
 ·rw[if_pos e,if_pos e];exact r.repl k ry
 ·rw[if_neg e,if_neg e];exact Paired.snoc r ⟨rfl,ry⟩
theorem KV.length {kvs:List (κ×V)}{vs:List (κ×Value)}(r:KV kvs vs):kvs.length=vs.length:=Paired.length r
end
theorem zdP {P:Program}{w:World}{k:Key}{u:Value}(r:RelV (kV k) u):(yQ P w).is k u=true:=by
 cases k with
 | inl i=>obtain⟨t,e⟩:=(show ∃t,u=Value.int i t from r);subst e;exact zdu P w i t
 | inr x=>obtain⟨t,e⟩:=(show ∃t,u=Value.str x t from r);subst e;exact zdv P w x t
theorem zb2 {P:Program}{w:World}:∀{ks:List Key} {us:List Value},Vals (ks.map kV) us->ItemsAre (yQ P w) ks us
 | [],_,r=>by rw[List.map_nil] at r;cases r;exact .nil
 | k::ks,_,r=>by
  rw[zuA] at r
  cases r with
  | cons h t=>exact .cons (zdP h) (zb2 t)
abbrev KT (H:Hp):List (List Key×V)->List (List Key×Addr×Value)->Prop:=Paired fun p q=>p.1=q.1/\H q.2.1=some (.tup (p.1.map kV))/\RelV p.2 q.2.2
theorem KT.val {H:Hp}{kvs:List (List Key×V)}{xs:List (List Key×Addr×Value)}(r:KT H kvs xs)(k:List Key):Rv (vm kvs k) ((atKey xs k).map (·.2)):=by
 induction r with
 | nil=>exact True.intro
 | @cons p q ps qs h t ih =>
  obtain⟨h1,_,h2⟩:=h
  by_cases e:p.1=k
  ·have e':q.1=k:=h1.symm.trans e
   have b:atKey (q::qs) k=some q.2:=by simp[atKey,List.find?_cons,e']
   rw[vo e,b];exact h2
  ·have e':¬q.1=k:=fun z=>e (h1.trans z)
   have b:atKey (q::qs) k=atKey qs k:=by simp[atKey,List.find?_cons,e']
   rw[wN e,b];exact ih
theorem KT.repl {H:Hp}{kvs:List (List Key×V)}{xs:List (List Key×Addr×Value)}(r:KT H kvs xs)(k:List Key){y:V}{u:Value}(ry:RelV y u) :
  KT H (kvs.map fun kv=>if kv.1=k then (kv.1,y) else kv) (xs.map (putAt k u)):=by
 induction r with
 | nil=>exact .nil
 | @cons p q ps qs h t ih =>
  rw[zuA,zuA]
  refine .cons ?_ ih
  obtain⟨h1,h2,h3⟩:=h
  unfold putAt
  by_cases e:p.1=k
  ·rw[if_pos e,if_pos (h1.symm.trans e)];exact⟨h1,h2,ry⟩
  ·rw[if_neg e,if_neg (fun z=>e (h1.trans z))];exact⟨h1,h2,h3⟩
theorem KT.put {H:Hp}{kvs:List (List Key×V)}{xs:List (List Key×Addr×Value)}(r:KT H kvs xs)(k:List Key){b:Addr}{y:V}{u:Value}(hb:H b=some (.tup (k.map kV)))(ry:RelV y u) :
  KT H (putK kvs k y) (storedH xs k b u):=by
 have e:(kvs.any fun kv=>decide (kv.1=k))=(atKey xs k).isSome:=by
  rw[Ti,(r.val k).Mj,Option.isSome_map]
 unfold putK storedH
 rw[e]
 by_cases q:(atKey xs k).isSome=true
 ·rw[if_pos q,if_pos q];exact r.repl k ry
 ·rw[if_neg q,if_neg q];exact Paired.snoc r ⟨rfl,hb,ry⟩
theorem KT.keeps {H H':Hp}{kvs:List (List Key×V)}{xs:List (List Key×Addr×Value)}(r:KT H kvs xs)(ht:∀b ys,H b=some (.tup ys)->H' b=some (.tup ys)):KT H' kvs xs :=
 Paired.zli r fun _ _ z=>⟨z.1,ht _ _ z.2.1,z.2.2⟩
section
variable {P:Program}{w:World}{H:Hp}{h:Heap}{a:Addr}
theorem zkW {u:HO}(ok:Rw P w H h)(e:Rd H a u):wL P w H h a u:=e.ok ok
theorem zgu {kvs:List (Key×V)}(ok:Rw P w H h)(e:Rd H a (.dK kvs)):kvs.length<=sizeLine/\(a==sysModules)=false/\∃vs,KV kvs vs/\h.DictOf (yQ P w) a vs :=
 show wL P w H h a (.dK kvs) from zkW ok e
theorem zkX {kvs:List (Key×V)}(ok:Rw P w H h)(e:H a=some (.dK kvs)):kvs.length<=sizeLine/\(a==sysModules)=false/\∃vs,KV kvs vs/\h.DictOf (yQ P w) a vs:=zgu ok (.inl e)
theorem zcQ {ks:List Key}(ok:Rw P w H h)(e:H a=some (.tup (ks.map kV))):(tupleKind (yQ P w)).is h ks a:=by
 obtain⟨_,its,r,o,h1,h2,n,h3⟩:=(show wL P w H h a (.tup (ks.map kV)) from ok a _ e)
 exact⟨o,its.toArray,n,h1,h2,h3,by simpa using zb2 r⟩
theorem zgv {kvs:List (List Key×V)}(ok:Rw P w H h)(e:Rd H a (.dT kvs)):kvs.length<=sizeLine/\(a==sysModules)=false /\
  ∃xs,KT H kvs xs/\h.DictOfH (tupleKind (yQ P w)) a xs:=by
 obtain⟨z,y,xs,r,o,es,ep,h1,h2,h3,h4,h5⟩:=(show wL P w H h a (.dT kvs) from zkW ok e)
 refine⟨z,y,xs,r,o,es,ep,h1,h2,h3,h4,fun x hx=>?_,h5⟩
 have all:∀{l:List (List Key×V)} {m:List (List Key×Addr×Value)},KT H l m->∀x∈m,(tupleKind (yQ P w)).is h x.1 x.2.1:=by
  intro l m q
  induction q with
  | nil=>intro x hx;exact nomatch hx
  | @cons p q ps qs hq t ih =>
   intro x hx
   rcases List.mem_cons.mp hx with e | hx
   ·subst e
    exact zcQ ok (by rw[<-hq.1];exact hq.2.1)
   ·exact ih x hx
 exact all r x hx
theorem znl {kvs:List (List Key×V)}(ok:Rw P w H h)(e:H a=some (.dT kvs)):kvs.length<=sizeLine/\(a==sysModules)=false /\
  ∃xs,KT H kvs xs/\h.DictOfH (tupleKind (yQ P w)) a xs:=zgv ok (.inl e)
end
def Tj (H:Hp)(a:Addr)(y:V)(r:Option V):Prop :=
 (∃kvs k,Rd H a (.dK kvs)/\y=kV k/\r=vm kvs k)\/∃kvs k b,Rd H a (.dT kvs)/\y=.ref b/\H b=some (.tup (k.map kV))/\r=vm kvs k
def zdQ (H:Hp)(a:Addr)(y v:V)(H':Hp):Prop :=
 (∃kvs k,H a=some (.dK kvs)/\y=kV k/\kvs.length<sizeLine/\H'=upd H a (.dK (putK kvs k v))) \/
 ∃kvs k b,H a=some (.dT kvs)/\y=.ref b/\H b=some (.tup (k.map kV))/\kvs.length<sizeLine/\H'=upd H a (.dT (putK kvs k v))
theorem Tj.k {H:Hp}{a:Addr}{kvs:List (Key×V)}{k:Key}(e:H a=some (.dK kvs)):Tj H a (kV k) (vm kvs k):=.inl ⟨kvs,k,.inl e,rfl,rfl⟩
theorem zdQ.k {H:Hp}{a:Addr}{kvs:List (Key×V)}{k:Key}{v:V}(e:H a=some (.dK kvs))(hl:kvs.length<sizeLine):zdQ H a (kV k) v (upd H a (.dK (putK kvs k v))):=.inl ⟨kvs,k,e,rfl,hl,rfl⟩
section
variable {X:Cx}{pins:List (Addr×Obj)}{σ:St}{H:Hp}{s:Shared}{a:Addr}{y v:V}{u r:Value}{o:Option V}{A:Around}{E:Value->Shared->Prop}
theorem Inv.big (I:Inv X pins σ H s):sysModules<s.heap.objs.size:=by
 have h:mainGlobals<s.heap.objs.size:=(I.mod.glob.keeps I.bk).lt
 exact Nat.lt_trans (by decide) h
theorem zhf {Q:Value->Shared->Prop}(hu:A.units+1<cLine)(I:Inv X pins σ H s)(g:Tj H a y (some v))(ry:RelV y u)(h:∀w' s',Inv X pins σ H s'->RelV v w'->Q w' s') :
  wpAny (model X.prog X.w) A (getItem (.ref a) u) Q E s:=by
 rcases g with ⟨kvs,k,e,ey,l⟩ | ⟨kvs,k,b,e,ey,eb,l⟩
 ·subst ey
  obtain⟨z,hd,vs,rel,dd⟩:=zgu I.hok e
  obtain⟨w',hw,rw'⟩:=Rv.some_of (v:=v) (o:=valueAt vs k) (by rw[l];exact rel.val k)
  exact wpAny_getItem_of (zdP ry) dd.mapOf hw (h w' _ (I.tok _) rw')
 ·subst ey
  cases (show u=Value.ref b from ry)
  obtain⟨z,hd,xs,rel,dd⟩:=zgv I.hok e
  obtain⟨w',hw,rw'⟩:=Rv.some_of (v:=v) (o:=(atKey xs k).map (·.2)) (by rw[l];exact rel.val k)
  obtain⟨p,hp,hp2⟩:=Option.map_eq_some_iff.mp hw
  refine wpAny_getItem_heap (tupleKind_room_in1 hu) (zcQ I.hok eb) dd hp ?_
  rw[hp2]
  exact h w' _ (I.tok _) rw'
theorem zj7 {Q:Value->Shared->Prop}(hu:A.units+1<cLine)(I:Inv X pins σ H s)(g:Tj H a y o)(ry:RelV y u)(h:∀s',Inv X pins σ H s'->Q (.bool (!o.isSome)) s') :
  wpAny (model X.prog X.w) A (compareOp .NotIn u (.ref a)) Q E s:=by
 rcases g with ⟨kvs,k,e,ey,l⟩ | ⟨kvs,k,b,e,ey,eb,l⟩
 ·subst ey
  obtain⟨z,hd,vs,rel,dd⟩:=zgu I.hok e
  refine wpAny_notIn_of (zdP ry) hd dd.mapOf ?_
  rw[<-(rel.val k).Mj,<-l]
  exact h _ (I.tok _)
 ·subst ey
  cases (show u=Value.ref b from ry)
  obtain⟨z,hd,xs,rel,dd⟩:=zgv I.hok e
  refine wpAny_notIn_heap (tupleKind_room_in1 hu) (zcQ I.hok eb) hd dd ?_
  have q:=(rel.val k).Mj
  rw[Option.isSome_map] at q
  rw[<-q,<-l]
  exact h _ (I.tok _)
theorem zcR {h':Heap}{t':Nat}{ob:HO}(I:Inv X pins σ H s)(mu:Mut (H a))(hs:Heap.SameBut a s.heap h')(he:∃q,h'.get? a=some q)(new:wL X.prog X.w (upd H a ob) h' a ob) :
  Inv X pins σ (upd H a ob) { s with heap:=h',toks:=t' } :=
 I.write (x:=a) (e:=a) mu (.inl rfl) (fun b q hb z=>(hs.2 b hb).trans z) he new
theorem ziO {P:Program}{w:World}{H':Hp}{h':Heap}{kvs:List (Key×V)}{vs:List (Key×Value)}(z:kvs.length<=sizeLine)(hd:(a==sysModules)=false)(rel:KV kvs vs)(dd:h'.DictOf (yQ P w) a vs) :
  wL P w H' h' a (.dK kvs):=⟨z,hd,vs,rel,dd⟩
theorem zhg {H':Hp}{Q:Unit->Shared->Prop}(hu:A.units+1<cLine)(I:Inv X pins σ H s)(g:zdQ H a y v H')(ry:RelV y u)(rv:RelV v r)(h:∀s',Inv X pins σ H' s'->Q () s') :
  wpAny (model X.prog X.w) A (setItem (.ref a) u r) Q E s:=by
 rcases g with ⟨kvs,k,e,ey,l,eH⟩ | ⟨kvs,k,b,e,ey,eb,l,eH⟩
 ·subst ey eH
  obtain⟨z,hd,vs,rel,dd⟩:=zkX I.hok e
  have hz:vs.length<=sizeLine:=by rw[<-rel.length];exact z
  have hl:(putK kvs k v).length<=sizeLine:=by have:=Wh kvs k v;omega
  refine wpAny_setItem_pairs (hsz:=hz) (zdP ry) dd fun h' dd' hs=>h _ ?_
  have he:∃q,h'.get? a=some q:=let ⟨q,_,_,hq,_⟩:=dd';⟨q,hq⟩
  exact zcR I (by rw[e];exact True.intro) hs he (ziO hl hd (rel.put k rv) dd')
 ·subst ey eH
  cases (show u=Value.ref b from ry)
  obtain⟨z,hd,xs,rel,dd⟩:=znl I.hok e
  have hz:xs.length<=sizeLine:=by rw[<-Paired.length rel];exact z
  have hl:(putK kvs k v).length<=sizeLine:=by have:=Wh kvs k v;omega
  refine wpAny_setItem_heap (hsz:=hz) (tupleKind_room_in1 hu) (zcQ I.hok eb) dd fun h' dd' hs=>h _ ?_
  obtain⟨q,es,ep,hq,h2,h3,h4,_,h5⟩:=dd'
  refine zcR I (by rw[e];exact True.intro) hs ⟨q,hq⟩ ⟨hl,hd,_,(rel.put k eb rv).keeps fun c ys ec=>?_,q,es,ep,hq,h2,h3,h4,h5⟩
  rw[zy (Yx ec e (fun z=>nomatch z))]
  exact ec
end
def znm (i:Expr):Prop:=∀ov iv,subscripted i false ov iv=operate [ov,iv] (getItem ov iv)
theorem zj8 {prog:Program}{w:World}{A:Around}{E:Value->Shared->Prop}{s:Shared}{env:Env}{value slice:Expr}{pos:Pos}{T id:String}{Q:Value->Shared->Prop}
  (hl:typeLookup (.type T) "__getitem__"=pure (some (.builtin id)))(hs:znm slice)
  (h:wpAny (model prog w) A (eval value env) (fun o s₁=>wpAny (model prog w) A (eval slice env) (fun i s₂=>s₂.TypeIs o T/\wpAny (model prog w) A (getItem o i) Q E s₂) E s₁) E s) :
  wpAny (model prog w) A (eval (.Subscript value slice pos) env) Q E s:=by
 refine Subscript_ (wpAny_mono h (fun o s₁ h₁=>wpAny_mono h₁ (fun i s₂ h₂=>?_) fun _ _ x=>x) fun _ _ x=>x)
 obtain⟨hT,h₂⟩:=h₂
 unfold subscriptTail
 refine wpAny_bind ?_
 rw[getitemInPython_of_ne hT.not_modules]
 refine wpAny_bind (wpAny_specialOf hT hl ?_)
 have fin:wpAny (model prog w) A (subscripted slice false o i) (fun r s₃=>wpAny (model prog w) A (letTemporaryGo value o r>>=fun _=>pure r) Q E s₃) E s₂:=by
  rw[hs o i]
  exact wpAny_operating (wpAny_mono h₂ (fun r s₃ h₃=>wpAny_bind (wpAny_letTemporaryGo (wpAny_pure h₃))) fun _ _ x=>x)
 first
  | exact wpAny_pure (wpAny_bind fin)
  | exact wpAny_bind (wpAny_pure (wpAny_bind fin))
  | exact wpAny_bind fin
theorem zdR {X:Cx}{pins:List (Addr×Obj)}{σ:St}{H:Hp}{s:Shared}{a:Addr}{y:V}{o:Option V}(I:Inv X pins σ H s)(g:Tj H a y o):s.TypeIs (.ref a) "dict" := by
 rcases g with ⟨kvs,k,e,_,_⟩ | ⟨kvs,k,b,e,_,_,_⟩
 ·obtain⟨_,_,vs,_,dd⟩:=zgu I.hok e
  exact dd.typeIs
 ·obtain⟨_,_,xs,_,dd⟩:=zgv I.hok e
  exact dd.typeIs
def znn (td ty:TE):TE:=fun σ H Q=>td σ H fun x H1=>ty σ H1 fun y H2=>∃a v,x=.ref a/\Tj H2 a y (some v)/\Q v H2
def zj9 (ty td:TE):TE:=fun σ H Q=>ty σ H fun y H1=>td σ H1 fun x H2=>∃a o,x=.ref a/\Tj H2 a y o/\Q (.bl (!o.isSome)) H2
def zno (td ty tv:TE):TS:=fun D σ H=>tv σ H fun v H1=>td σ H1 fun x H2=>ty σ H2 fun y H3=>∃a H4,x=.ref a/\zdQ H3 a y v H4/\D.nx σ H4
section
variable {X:Cx}{o i e value:Expr}{pos pos' tpos:Pos}{td ty tv:TE}
theorem Jt (hu:X.A.units+1<cLine)(ho:PE X o td)(hi:PE X i ty)(hs:znm i):PE X (.Subscript o i pos) (znn td ty):=by
 intro pins s σ H Q I h
 refine zj8 PySem.F.slot_dict_getitem.lookup hs (wM (ho pins s σ H _ I h) fun u s1 ⟨x,H1,I1,rx,q1⟩=>wM (hi pins s1 σ H1 _ I1 q1) fun iv s2 ⟨y,H2,I2,ry,a,v,ex,g,q2⟩=>?_)
 subst ex
 obtain rfl:u=Value.ref a:=rx
 exact⟨zdR I2 g,zhf hu I2 g ry fun w' s3 I3 rw'=>⟨v,H2,I3,rw',q2⟩⟩
theorem zb3 (hu:X.A.units+1<cLine)(hi:PE X i ty)(ho:PE X o td):PC X .NotIn i o (zj9 ty td):=by
 intro pins s σ H Q I h
 refine wM (hi pins s σ H _ I h) fun iv s1 ⟨y,H1,I1,ry,q1⟩=>wM (ho pins s1 σ H1 _ I1 q1) fun u s2 ⟨x,H2,I2,rx,a,ov,ex,g,q2⟩=>?_
 subst ex
 obtain rfl:u=Value.ref a:=rx
 exact zj7 hu I2 g ry fun s3 I3=>⟨.bl (!ov.isSome),H2,I3,rfl,q2⟩
theorem Ju (hu:X.A.units+1<cLine)(ho:PE X o td)(hi:PE X i ty)(hv:PE X value tv)(hs:swapsWith value (some (.Subscript o i pos')) pos.line X.env=pure false) :
  PS X (.Assign [.Subscript o i pos'] value pos) (zno td ty tv):=by
 intro pins s σ H D I h
 refine wpAny_Assign_Subscript (wM (hv pins s σ H _ I h) fun r s1 ⟨v,H1,I1,rv,q1⟩=>wM (ho pins s1 σ H1 _ I1 q1) fun u s2 ⟨x,H2,I2,rx,q2⟩=>wM (hi pins s2 σ H2 _ I2 q2) fun iv s3 ⟨y,H3,I3,ry,a,H4,ex,g,q3⟩=>?_) hs
 subst ex
 obtain rfl:u=Value.ref a:=rx
 exact zhg hu I3 g ry rv fun s4 I4=>⟨σ,H4,I4,q3⟩
end
theorem zdS {P:Program}{w:World}{H:Hp}(h:Heap)(hb:sysModules<h.objs.size):wL P w H (h.push { cls:=.type "dict", data:=.dict #[] }) h.objs.size (.dK []) :=
 ⟨zuy _,beq_eq_false_iff_ne.mpr (Ne.symm (zur hb)),[],.nil,Heap.DictOf.new h⟩
def zlV:TE:=fun _ H Q=>∀p,H p=none->Q (.ref p) (upd H p (.dK []))
section
variable {X:Cx}{pos:Pos}
theorem zad:PE X (.Dict [] [] pos) zlV:=fun pins s σ H Q I h =>
 wpAny_Dict_empty ⟨.ref s.heap.objs.size,_,I.laid (a:=s.heap.objs.size) (o:=.dK []) (t':=s.toks) (fun _ _ q=>zui _ q) (zus _) (zdS s.heap I.big),rfl,h _ (I.hok.fresh (zus _))⟩
end
def zfe:List (TE×TE)->St->Hp->(List (V×V)->Hp->Prop)->Prop
 | [],_,H,Q=>Q [] H
 | (tk,tv)::r,σ,H,Q=>tk σ H fun x H1=>tv σ H1 fun y H2=>zfe r σ H2 fun ps H3=>Q ((x,y)::ps) H3
abbrev VV:List (V×V)->List (Value×Value)->Prop:=Paired fun p q=>RelV p.1 q.1/\RelV p.2 q.2
def PPs (X:Cx)(pos:Pos)(keys:List (Option Expr))(values:List Expr)(trs:List (TE×TE)):Prop :=
 ∀(pins:List (Addr×Obj)) (s:Shared) (σ:St) (H:Hp) (Q:List (V×V)->Hp->Prop),Inv X pins σ H s->zfe trs σ H Q ->
  wpAny (model X.prog X.w) X.A (evalPairs (pairTrees keys values X.env pos)) (fun vs s'=>∃ps H',Inv X pins σ H' s'/\VV ps vs/\Q ps H') X.xe s
theorem zkb {X:Cx}{pos:Pos}:PPs X pos [] [] []:=fun pins s σ H Q I h=>pairTrees_nil_walk ⟨[],H,I,.nil,h⟩
theorem zdT {X:Cx}{pos:Pos}{k v:Expr}{ks:List (Option Expr)}{vs:List Expr}{tk tv:TE}{trs:List (TE×TE)}(hk:PE X k tk)(hv:PE X v tv)(hr:PPs X pos ks vs trs) :
  PPs X pos (some k::ks) (v::vs) ((tk,tv)::trs):=fun pins s σ H Q I h =>
 pairTrees_cons_walk (wM (hk pins s σ H _ I h) fun u s1 ⟨x,H1,I1,rx,q1⟩=>wM (hv pins s1 σ H1 _ I1 q1) fun w2 s2 ⟨y,H2,I2,ry,q2⟩ =>
  wM (hr pins s2 σ H2 _ I2 q2) fun ws s3 ⟨ps,H3,I3,rel,q3⟩=>⟨(x,y)::ps,H3,I3,.cons ⟨rx,ry⟩ rel,q3⟩)
def WD (kvs more:List (Key×V)):List (Key×V):=more.foldl (fun acc kv=>putK acc kv.1 kv.2) kvs
theorem KV.merge:∀{more:List (Key×V)} {rs:List (Key×Value)} {kvs:List (Key×V)} {vs:List (Key×Value)},KV more rs->KV kvs vs->KV (WD kvs more) (merged vs rs):=by
 intro more rs kvs vs r
 unfold KV at r
 induction r generalizing kvs vs with
 | nil=>intro q;exact q
 | @cons p q ps qs h t ih =>
  intro r0
  have e:KV (putK kvs p.1 p.2) (stored vs q.1 q.2):=by
   have:=r0.put p.1 h.2
   rw[<-h.1];exact this
  exact ih e
theorem RK:∀(more kvs:List (Key×V)),(WD kvs more).length<=kvs.length+more.length
 | [],kvs=>by show kvs.length<=kvs.length+0;omega
 | p::r,kvs=>by
  have h1:=RK r (putK kvs p.1 p.2)
  have h2:=Wh kvs p.1 p.2
  show(WD (putK kvs p.1 p.2) r).length<=_
  rw[zuo];omega
theorem zae {P:Program}{w:World}:∀{kvs:List (Key×V)} {ws:List (Value×Value)},VV (kvs.map fun kv=>(kV kv.1,kv.2)) ws->∃rs,Carries (yQ P w) ws rs/\KV kvs rs
 | [],_,r=>by rw[List.map_nil] at r;cases r;exact⟨[],True.intro,.nil⟩
 | p::kvs,_,r=>by
  rw[zuA] at r
  cases r with
  | @cons a b as bs h t =>
   obtain⟨rs,c,q⟩:=zae (P:=P) (w:=w) t
   obtain⟨b1,b2⟩:=b
   exact⟨(p.1,b2)::rs,⟨zdP h.1,rfl,c⟩,.cons ⟨rfl,h.2⟩ q⟩
def znp (trs:List (TE×TE)):TE:=fun σ H Q=>∀p,H p=none->zfe trs σ (upd H p (.dK [])) fun ps H2=>H2 p=some (.dK [])/\∃kvs:List (Key×V),ps=kvs.map (fun kv=>(kV kv.1,kv.2))/\kvs.length<=15/\Q (.ref p) (upd H2 p (.dK (WD [] kvs)))
theorem zkc {X:Cx}{pos:Pos}{keys:List (Option Expr)}{values:List Expr}{trs:List (TE×TE)}(h:PPs X pos keys values trs)(hall:keys.all (·.isSome)=true)(hl:keys.length=values.length)(h0:keys≠[])
  (h15:keys.length<=15):PE X (.Dict keys values pos) (znp trs):=by
 intro pins s σ H Q I q
 have hn:=I.hok.fresh (zus s.heap.objs.size)
 have I1:=I.laid (a:=s.heap.objs.size) (o:=.dK []) (h':=s.heap.push { cls:=.type "dict", data:=.dict #[] }) (t':=s.toks) (fun _ _ q=>zui _ q) (zus _) (zdS s.heap I.big)
 refine wpAny_Dict_walk (knd:=yQ X.prog X.w) hall hl h0 h15 (wM (h pins _ σ _ _ I1 (q _ hn)) fun ws s2 ⟨ps,H2,I2,rel,e,kvs,ep,lk,q2⟩=>?_)
 subst ep
 obtain⟨rs,c,rk⟩:=zae (P:=X.prog) (w:=X.w) rel
 obtain⟨z,hd,vs0,r0,dd⟩:=zkX I2.hok e
 cases r0
 refine⟨rs,c,dd,fun h' dd' hs=>⟨.ref s.heap.objs.size,_,?_,rfl,q2⟩⟩
 have hz:(WD [] kvs).length<=sizeLine:=by
  have h1:=RK kvs []
  rw[List.length_nil] at h1
  rw[sizeLine_eq];omega
 have he:∃q,h'.get? s.heap.objs.size=some q:=let ⟨q,_,_,hq,_⟩:=dd';⟨q,hq⟩
 exact zcR I2 (by rw[e];exact True.intro) hs he (ziO hz hd (rk.merge .nil) dd')
inductive Qg (K:Frag)(H:Hp):Nat->V->V->Bool->Prop
 | flat {n:Nat} {x y:V} (fx:vP x=true) (fy:vP y=true):Qg K H n x y (eqV x y)
 | tt {n:Nat} {p q:Addr} {xs ys:List V} {e:Nat->Bool} (hp:wK K H p xs) (hq:wK K H q ys) (h:∀(j:Nat) x y,xs[j]?=some x->ys[j]?=some y->Qg K H n x y (e j)) :
   Qg K H (n+1) (.ref p) (.ref q) ((List.range (min xs.length ys.length)).all e&&xs.length==ys.length)
 | ll {n:Nat} {p q:Addr} {xs ys:List V} {e:Nat->Bool} (hp:zT K H p xs) (hq:zT K H q ys) (hl:xs.length=ys.length) (h:∀(j:Nat) x y,xs[j]?=some x->ys[j]?=some y->Qg K H n x y (e j)) :
   Qg K H (n+1) (.ref p) (.ref q) ((List.range xs.length).all e)
 | ln {n:Nat} {p q:Addr} {xs ys:List V} (hp:zT K H p xs) (hq:zT K H q ys) (hl:xs.length≠ys.length):Qg K H (n+1) (.ref p) (.ref q) false
 | lt {n:Nat} {p q:Addr} {xs ys:List V} (hp:zT K H p xs) (hq:wK K H q ys):Qg K H (n+1) (.ref p) (.ref q) false
 | tl {n:Nat} {p q:Addr} {xs ys:List V} (hp:wK K H p xs) (hq:zT K H q ys):Qg K H (n+1) (.ref p) (.ref q) false
 | lf {n:Nat} {p:Addr} {xs:List V} {y:V} (hp:zT K H p xs) (fy:vP y=true):Qg K H (n+1) (.ref p) y false
 | fl {n:Nat} {p:Addr} {xs:List V} {y:V} (hp:zT K H p xs) (fy:vP y=true):Qg K H (n+1) y (.ref p) false
 | tf {n:Nat} {p:Addr} {xs:List V} {y:V} (hp:wK K H p xs) (fy:vP y=true):Qg K H (n+1) (.ref p) y false
 | ft {n:Nat} {p:Addr} {xs:List V} {y:V} (hp:wK K H p xs) (fy:vP y=true):Qg K H (n+1) y (.ref p) false
section
variable {X:Cx}{pins:List (Addr×Obj)}{σ:St}{H:Hp}{s:Shared}
theorem ziP {x:V}(f:vP x=true):eqV x x=true:=by
 cases x<;>first | rfl | (simp[eqV];done) | exact absurd (show false=true from f) zug
theorem Tn (I:Inv X pins σ H s){p:Addr}{xs ys:List V}(h:zT X.K H p xs)(k:wK X.K H p ys):False:=by
 obtain⟨_,_,⟨o,n,e,c,_⟩,_⟩:=I.list h
 obtain⟨_,_,⟨o',e',c',_⟩,_⟩:=I.tuple k
 rw[e] at e'
 cases e'
 rw[c] at c'
 injection c' with z
 exact absurd z (by decide)
theorem Qg.refl (I:Inv X pins σ H s){n:Nat}{x y:V}{b:Bool}(h:Qg X.K H n x y b):x=y->b=true:=by
 induction h with
 | flat fx fy=>intro e;subst e;exact ziP fx
 | tt hp hq h ih =>
  intro e
  cases e
  have ee:=I.zbH hp hq
  subst ee
  rw[Nat.min_self,beq_self_eq_true,Bool.and_true,zuF]
  intro j hj
  have hj':=List.mem_range.mp hj
  exact ih j _ _ (zud hj') (zud hj') rfl
 | ll hp hq hl h ih =>
  intro e
  cases e
  have ee:=I.Xr hp hq
  subst ee
  rw[zuF]
  intro j hj
  have hj':=List.mem_range.mp hj
  exact ih j _ _ (zud hj') (zud hj') rfl
 | ln hp hq hl =>
  intro e
  cases e
  exact absurd (congrArg List.length (I.Xr hp hq)) hl
 | lt hp hq=>intro e;cases e;exact(Tn I hp hq).elim
 | tl hp hq=>intro e;cases e;exact(Tn I hq hp).elim
 | lf hp fy=>intro e;subst e;exact absurd (show false=true from fy) zug
 | fl hp fy=>intro e;subst e;exact absurd (show false=true from fy) zug
 | tf hp fy=>intro e;subst e;exact absurd (show false=true from fy) zug
 | ft hp fy=>intro e;subst e;exact absurd (show false=true from fy) zug
theorem SN {A:Around}{u:Value}{y:V}{p:Addr}{its:Array Value}(hl:s.heap.IsList p its)(fy:vP y=true)(ry:RelV y u)(hu:A.units<cLine):SeqAt.RcAt A s (.ref p) u false/\SeqAt.EqAt A s (.ref p) u false/\SeqAt.RcAt A s u (.ref p) false/\SeqAt.EqAt A s u (.ref p) false/\SeqAt.RcNeAt A s (.ref p) u true/\SeqAt.RcNeAt A s u (.ref p) true:=by
 cases y with
 | non=>cases ry;exact⟨.list_none hl hu,.list_none hl hu,.none_list hl hu,.none_list hl hu,.list_none hl hu,.none_list hl hu⟩
 | bl b=>cases ry;exact⟨.list_bool b hl hu,.list_bool b hl hu,.bool_list b hl hu,.bool_list b hl hu,.list_bool b hl hu,.bool_list b hl hu⟩
 | int i=>obtain⟨t,rfl⟩:=ry;exact⟨.list_int i t hl hu,.list_int i t hl hu,.int_list i t hl hu,.int_list i t hl hu,.list_int i t hl hu,.int_list i t hl hu⟩
 | str i=>obtain⟨t,rfl⟩:=ry;exact⟨.list_str i t hl hu,.list_str i t hl hu,.str_list i t hl hu,.str_list i t hl hu,.list_str i t hl hu,.str_list i t hl hu⟩
 | _=>exact absurd (show false=true from fy) zug
theorem Vz {A:Around}{u:Value}{y:V}{p:Addr}{its:Array Value}(hl:s.heap.IsTuple p its)(fy:vP y=true)(ry:RelV y u)(hu:A.units<cLine):SeqAt.RcAt A s (.ref p) u false/\SeqAt.EqAt A s (.ref p) u false/\SeqAt.RcAt A s u (.ref p) false/\SeqAt.EqAt A s u (.ref p) false/\SeqAt.RcNeAt A s (.ref p) u true/\SeqAt.RcNeAt A s u (.ref p) true:=by
 cases y with
 | non=>cases ry;exact⟨.tuple_none hl hu,.tuple_none hl hu,.none_tuple hl hu,.none_tuple hl hu,.tuple_none hl hu,.none_tuple hl hu⟩
 | bl b=>cases ry;exact⟨.tuple_bool b hl hu,.tuple_bool b hl hu,.bool_tuple b hl hu,.bool_tuple b hl hu,.tuple_bool b hl hu,.bool_tuple b hl hu⟩
 | int i=>obtain⟨t,rfl⟩:=ry;exact⟨.tuple_int i t hl hu,.tuple_int i t hl hu,.int_tuple i t hl hu,.int_tuple i t hl hu,.tuple_int i t hl hu,.int_tuple i t hl hu⟩
 | str i=>obtain⟨t,rfl⟩:=ry;exact⟨.tuple_str i t hl hu,.tuple_str i t hl hu,.str_tuple i t hl hu,.str_tuple i t hl hu,.tuple_str i t hl hu,.str_tuple i t hl hu⟩
 | _=>exact absurd (show false=true from fy) zug
theorem item_at {xs:List V}{us:List Value}(r:Vals xs us){j:Nat}(h:j<us.toArray.size):∃x,xs[j]?=some x/\RelV x us.toArray[j]:=by
 have hl:=r.length
 have hj:j<xs.length:=by simp at h;omega
 obtain⟨u,hu,ru⟩:=r.get (zud hj)
 refine⟨xs[j],zud hj,?_⟩
 have e:us.toArray[j]=u:=by
  have:=(zuf.mp hu).2
  simpa using this
 rw[e];exact ru
theorem Qg.at {n:Nat}{x y:V}{b:Bool}(h:Qg X.K H n x y b)(I:Inv X pins σ H s):∀{A:Around} {u v:Value},RelV x u->RelV y v->A.units+n<cLine->SeqAt.EqAt A s u v b:=by
 induction h with
 | flat fx fy=>intro A u v rx ry _;exact zil rx ry fx fy
 | @tt n p q xs ys e hp hq h ih =>
  intro A u v rx ry hu
  cases rx
  cases ry
  obtain⟨us,r1,t1,_⟩:=I.tuple hp
  obtain⟨ws,r2,t2,_⟩:=I.tuple hq
  have l1:=r1.length
  have l2:=r2.length
  by_cases hne:p=q
  ·subst hne
   have z:=(Qg.tt hp hq h).refl I rfl
   rw[z]
   exact SeqAt.EqAt.same _
  ·refine SeqAt.EqAt.of_refs hne ?_
   have z:=SeqAt.RcAt.tuples (A:=A) (e:=e) t1 t2 (by omega) fun j h1 h2=>by
    obtain⟨x,hx,rx⟩:=item_at r1 h1
    obtain⟨y,hy,ry⟩:=item_at r2 h2
    exact ih j x y hx hy rx ry (by show A.units+1+n<cLine;omega)
   rw[zum,zum,<-l1,<-l2] at z
   exact z
 | @ll n p q xs ys e hp hq hl h ih =>
  intro A u v rx ry hu
  cases rx
  cases ry
  obtain⟨us,r1,t1,_⟩:=I.list hp
  obtain⟨ws,r2,t2,_⟩:=I.list hq
  have l1:=r1.length
  have l2:=r2.length
  by_cases hne:p=q
  ·subst hne
   have z:=(Qg.ll hp hq hl h).refl I rfl
   rw[z]
   exact SeqAt.EqAt.same _
  ·refine SeqAt.EqAt.of_refs hne ?_
   have z:=SeqAt.RcAt.lists (A:=A) (e:=e) t1.isList t2.isList (by simp;omega) (by omega) fun j h1 h2=>by
    obtain⟨x,hx,rx⟩:=item_at r1 h1
    obtain⟨y,hy,ry⟩:=item_at r2 h2
    exact ih j x y hx hy rx ry (by show A.units+1+n<cLine;omega)
   rw[zum,<-l1] at z
   exact z
 | @ln n p q xs ys hp hq hl =>
  intro A u v rx ry hu
  cases rx
  cases ry
  obtain⟨us,r1,t1,_⟩:=I.list hp
  obtain⟨ws,r2,t2,_⟩:=I.list hq
  have l1:=r1.length
  have l2:=r2.length
  have hne:p≠q:=fun e=>by subst e;exact hl (congrArg List.length (I.Xr hp hq))
  exact SeqAt.EqAt.of_refs hne (SeqAt.RcAt.lists_lengths t1.isList t2.isList (by simp;omega) (by omega))
 | lt hp hq =>
  intro A u v rx ry hu
  cases rx
  cases ry
  obtain⟨us,r1,t1,_⟩:=I.list hp
  obtain⟨ws,r2,t2,_⟩:=I.tuple hq
  exact SeqAt.EqAt.list_tuple t1.isList t2 (by omega)
 | tl hp hq =>
  intro A u v rx ry hu
  cases rx
  cases ry
  obtain⟨us,r1,t1,_⟩:=I.tuple hp
  obtain⟨ws,r2,t2,_⟩:=I.list hq
  exact SeqAt.EqAt.tuple_list t1 t2.isList (by omega)
 | lf hp fy =>
  intro A u v rx ry hu
  cases rx
  obtain⟨us,r1,t1,_⟩:=I.list hp
  exact(SN t1.isList fy ry (by omega)).2.1
 | fl hp fy =>
  intro A u v rx ry hu
  cases ry
  obtain⟨us,r1,t1,_⟩:=I.list hp
  exact(SN t1.isList fy rx (by omega)).2.2.2.1
 | tf hp fy =>
  intro A u v rx ry hu
  cases rx
  obtain⟨us,r1,t1,_⟩:=I.tuple hp
  exact(Vz t1 fy ry (by omega)).2.1
 | ft hp fy =>
  intro A u v rx ry hu
  cases ry
  obtain⟨us,r1,t1,_⟩:=I.tuple hp
  exact(Vz t1 fy rx (by omega)).2.2.2.1
theorem Qg.rc {n:Nat}{x y:V}{b:Bool}(h:Qg X.K H n x y b)(I:Inv X pins σ H s)(hn:¬(vP x=true/\vP y=true)){A:Around}{u v:Value}(rx:RelV x u)(ry:RelV y v)(hu:A.units+n<cLine):SeqAt.RcAt A s u v b/\SeqAt.RcNeAt A s u v (!b):=by
 cases h with
 | flat fx fy=>exact absurd ⟨fx,fy⟩ hn
 | @tt n p q xs ys e hp hq h =>
  cases rx
  cases ry
  obtain⟨us,r1,t1,_⟩:=I.tuple hp
  obtain⟨ws,r2,t2,_⟩:=I.tuple hq
  have l1:=r1.length
  have l2:=r2.length
  have he:∀j (h1:j<us.toArray.size) (h2:j<ws.toArray.size),SeqAt.EqAt A.in1 s us.toArray[j] ws.toArray[j] (e j):=fun j h1 h2=>by
   obtain⟨x,hx,rx⟩:=item_at r1 h1
   obtain⟨y,hy,ry⟩:=item_at r2 h2
   exact(h j x y hx hy).at I rx ry (by show A.units+1+n<cLine;omega)
  have z:=SeqAt.RcAt.tuples (A:=A) (e:=e) t1 t2 (by omega) he
  have z2:=SeqAt.RcNeAt.tuples (A:=A) (e:=e) t1 t2 (by omega) he
  rw[zum,zum,<-l1,<-l2] at z z2
  exact⟨z,z2⟩
 | @ll n p q xs ys e hp hq hl h =>
  cases rx
  cases ry
  obtain⟨us,r1,t1,_⟩:=I.list hp
  obtain⟨ws,r2,t2,_⟩:=I.list hq
  have l1:=r1.length
  have l2:=r2.length
  have he:∀j (h1:j<us.toArray.size) (h2:j<ws.toArray.size),SeqAt.EqAt A.in1 s us.toArray[j] ws.toArray[j] (e j):=fun j h1 h2=>by
   obtain⟨x,hx,rx⟩:=item_at r1 h1
   obtain⟨y,hy,ry⟩:=item_at r2 h2
   exact(h j x y hx hy).at I rx ry (by show A.units+1+n<cLine;omega)
  have z:=SeqAt.RcAt.lists (A:=A) (e:=e) t1.isList t2.isList (by simp;omega) (by omega) he
  have z2:=SeqAt.RcNeAt.lists (A:=A) (e:=e) t1.isList t2.isList (by simp;omega) (by omega) he
  rw[zum,<-l1] at z z2
  exact⟨z,z2⟩
 | @ln n p q xs ys hp hq hl =>
  cases rx
  cases ry
  obtain⟨us,r1,t1,_⟩:=I.list hp
  obtain⟨ws,r2,t2,_⟩:=I.list hq
  have l1:=r1.length
  have l2:=r2.length
  exact⟨SeqAt.RcAt.lists_lengths t1.isList t2.isList (by simp;omega) (by omega),SeqAt.RcNeAt.lists_lengths t1.isList t2.isList (by simp;omega) (by omega)⟩
 | lt hp hq =>
  cases rx
  cases ry
  obtain⟨us,r1,t1,_⟩:=I.list hp
  obtain⟨ws,r2,t2,_⟩:=I.tuple hq
  exact⟨SeqAt.RcAt.list_tuple t1.isList t2 (by omega),SeqAt.RcNeAt.list_tuple t1.isList t2 (by omega)⟩
 | tl hp hq =>
  cases rx
  cases ry
  obtain⟨us,r1,t1,_⟩:=I.tuple hp
  obtain⟨ws,r2,t2,_⟩:=I.list hq
  exact⟨SeqAt.RcAt.tuple_list t1 t2.isList (by omega),SeqAt.RcNeAt.tuple_list t1 t2.isList (by omega)⟩
 | lf hp fy =>
  cases rx
  obtain⟨us,r1,t1,_⟩:=I.list hp
  have z:=SN (A:=A) t1.isList fy ry (by omega)
  exact⟨z.1,z.2.2.2.2.1⟩
 | fl hp fy =>
  cases ry
  obtain⟨us,r1,t1,_⟩:=I.list hp
  have z:=SN (A:=A) t1.isList fy rx (by omega)
  exact⟨z.2.2.1,z.2.2.2.2.2⟩
 | tf hp fy =>
  cases rx
  obtain⟨us,r1,t1,_⟩:=I.tuple hp
  have z:=Vz (A:=A) t1 fy ry (by omega)
  exact⟨z.1,z.2.2.2.2.1⟩
 | ft hp fy =>
  cases ry
  obtain⟨us,r1,t1,_⟩:=I.tuple hp
  have z:=Vz (A:=A) t1 fy rx (by omega)
  exact⟨z.2.2.1,z.2.2.2.2.2⟩
end
section
variable {X:Cx}
theorem ziQ {K:Frag}(hK:X.K=K)(hu:X.A.units+8<cLine):U0 X (compareOp .NotEq) (fun x y H Q=>∃b,¬(vP x=true/\vP y=true)/\Qg K H 8 x y b/\Q (.bl (!b)) H):=by
 subst hK
 intro pins s σ H x y v u Q I rx ry h
 obtain⟨b,hn,he,q⟩:=h
 exact(he.rc I hn rx ry hu).2 X.prog X.w X.xe _ ⟨.bl (!b),H,I,rfl,q⟩
theorem hu8 {A:Around}{k:Nat}(hr:ZJ k A):A.units+8<cLine:=by have:=hr.units;omega
theorem zdU:∀{xs:List V} {us:List Value},xs.length=us.length->(∀(j:Nat) u,us[j]?=some u->∃x,xs[j]?=some x/\RelV x u)->Vals xs us
 | [],[],_,_=>.nil
 | [],_::_,h,_=>by simp at h
 | _::_,[],h,_=>by simp at h
 | x::xs,u::us,hl,h=>by
  obtain⟨x',e,r⟩:=h 0 u rfl
  cases e
  refine .cons r (zdU (by simpa using hl) fun j v hv=>?_)
  obtain⟨y,e,r⟩:=h (j+1) v (by simpa using hv)
  exact⟨y,by simpa using e,r⟩
theorem Ml (hc:X.calm=true):Wc X (.builtin "sorted") (fun xs H Q=>∃(p:Addr) (kvs:List (Key×V)) (ns:List Int),xs=[.ref p]/\H p=some (.dK kvs)/\kvs.map (·.1)=ns.map Sum.inl/\ns.length<64/\∀(l:Addr) (ms:List Int),H l=none->ms.Perm ns->ms.Pairwise (·<=·)->Q (.ref l) (upd H l (.lst (ms.map V.int)))):=by
 intro pins s σ H xs us Q I r h
 obtain⟨p,kvs,ns,rfl,hp,hns,h64,q⟩:=h
 obtain⟨u,rfl,rx⟩:=vals1 r
 cases rx
 obtain⟨hz,lo,vs,rv,hD⟩:=(show kvs.length<=sizeLine/\(p==sysModules)=false/\∃vs,KV kvs vs/\s.heap.DictOf (yQ X.prog X.w) p vs from I.hok p _ hp)
 obtain⟨ep,hat⟩:=hD.dictAt
 have hl:kvs.length=vs.length:=Paired.length rv
 have hnl:kvs.length=ns.length:=by have:=congrArg List.length hns;rw[zuc,zuc] at this;exact this
 refine Calls.call_function_entry kind_sorted plain_sorted entry_sorted (args_sorted1 _) ?_
 unfold Builtin.«sorted»
 refine wpAny_bind (m:=checkCount "sorted" 1 1 _) (wpAny_pure ?_)
 refine wpAny_bind (PySem.W.kdu_collect (PySem.W.kdl_dict (knd:=yQ X.prog X.w) (kvs:=vs) (ep:=ep) lo) (I.ok.hd hc) hat (by omega) fun h' tk acc hk hacc=>?_)
 have hoL:(h'.push (seqObj "list" acc.toList.toArray 0)).get? h'.objs.size=some (seqObj "list" acc.toList.toArray 0):=zuw _ rfl
 have hv:Vals (ns.map V.int) acc.toList:=by
  refine zdU (by rw[zuc];have:=hacc.1;simp;omega) fun j v hv=>?_
  obtain⟨k,x,hx,hkv⟩:=hacc.2 j v (by rw[<-Array.getElem?_toList];exact hv)
  obtain⟨y,hy,e1,_⟩:=Pg rv hx
  have e2:(ns.map (Sum.inl:Int->Key))[j]?=some y.1:=by rw[<-hns,zue,hy];rfl
  rw[zue] at e2
  cases hj:ns[j]? with
  | none=>rw[hj] at e2;cases e2
  | some i =>
   rw[hj] at e2
   have e3:(Sum.inl i:Key)=y.1:=zuG e2
   refine⟨.int i,by rw[zue,hj];rfl,?_⟩
   have e1':y.1=k:=e1
   rw[<-e1',<-e3] at hkv
   rcases xH (k:=(Sum.inl i:Key)) (v:=v) hkv with ⟨i',t,e4,rfl⟩ | ⟨z,t,e4,rfl⟩
   ·cases e4;exact⟨_,rfl⟩
   ·cases e4
 have hi:IntsAre acc.toList ns:=intsAre_of hv
 have hal:acc.toList.length=ns.length:=hi.length
 refine wpAny_bind (wpAny_newList ?_ (hsz:=by rw[hal];exact zuu (zQ (by omega))))
 show wpAny _ _ _ _ _ { s with heap:=h'.push (seqObj "list" acc.toList.toArray 0),toks:=tk }
 refine wpAny_bind (wpAny_holding (wpAny_call_entry slot_list_sort ⟨_,hoL,rfl⟩ entry_list_sort (list_sort_tree hoL hi (by omega) fun out ms a1 a2 a3=>⟨_,rfl,?_⟩) (args_list_sort _)))
 refine wpAny_pure ⟨_,rfl,?_⟩
 have I1:Inv X pins σ H { s with heap:=h',toks:=tk }:=I.kept hk
 obtain⟨e,he⟩:=sortedHeap_at (vs:=acc.toList) (out:=out) hoL
 have hf:H h'.objs.size=none:=I1.hok.fresh (zus _)
 have hlm:=a2.length_eq
 have s64:=zQ (n:=ms.length) (by omega)
 refine⟨.ref h'.objs.size,_,I1.laid (o:=.lst (ms.map V.int)) (fun b o e=>?_) (zus _) ?_,rfl,q _ ms hf a2 a3⟩
 ·have lb:=zuj e
  rw[sortedHeap_old (zur lb) (by rw[size_push'];exact Nat.lt_succ_of_lt lb)]
  exact zui _ e
 ·refine⟨by rw[zuc];exact zuu s64,out.toList,e,N5 a1,?_⟩
  simpa using he
end
end L2
namespace zE
abbrev Rm:=Option (Nat×Nat×Nat)
def z8 (n:Nat)(rs:List Rm)(k:Nat):Nat:=match rs[k]? with
 | some (some (i,_,_))=>i
 | _=>n
structure Bk (n:Nat)(rs:List Rm):Prop where
 h0:rs[0]?=some none
 h1:rs[1]?=some none
 rm:∀k,2<=k->k<rs.length->∃i lo hi,rs[k]?=some (some (i,lo,hi))/\i<n/\lo<k/\hi<k/\lo≠hi/\i<z8 n rs lo/\i<z8 n rs hi
 uq:∀(k l:Nat) (x:Nat×Nat×Nat),rs[k]?=some (some x)->rs[l]?=some (some x)->k=l
abbrev Row:=Nat->Bool
def put (r:Row)(i:Nat)(v:Bool):Row:=fun j=>if j=i then v else r j
def lead (rs:List Rm)(r:Row):Nat->Nat->Nat
 | 0,k=>k
 | f+1,k=>match rs[k]? with
  | some (some (i,lo,hi))=>lead rs r f (if r i then hi else lo)
  | _=>k
theorem zb4 {n:Nat}{rs:List Rm}(B:Bk n rs)(r:Row):∀(f g k:Nat),k<=f->k<=g->k<rs.length->lead rs r f k=lead rs r g k
 | 0,0,k,_,_,_=>rfl
 | 0,g+1,k,h,_,_=>by
  have e:k=0:=by omega
  subst e
  show 0=lead rs r (g+1) 0
  unfold lead
  rw[B.h0]
 | f+1,0,k,_,h,_=>by
  have e:k=0:=by omega
  subst e
  show lead rs r (f+1) 0=0
  unfold lead
  rw[B.h0]
 | f+1,g+1,k,hf,hg,hk=>by
  by_cases h2:2<=k
  ·obtain⟨i,lo,hi,e,_,hlo,hhi,_⟩:=B.rm k h2 hk
   unfold lead
   rw[e]
   show lead rs r f (if r i then hi else lo)=lead rs r g (if r i then hi else lo)
   refine zb4 B r f g _ ?_ ?_ ?_<;>(split<;>omega)
  ·have:k=0\/k=1:=by omega
   rcases this with e | e<;>subst e<;>unfold lead
   ·rw[B.h0]
   ·rw[B.h1]
def yes (rs:List Rm)(k:Nat)(r:Row):Bool:=lead rs r k k==1
section
variable {n:Nat}{rs:List Rm}(B:Bk n rs)
include B
theorem len2:2<=rs.length:=by
 have:=(zuf.mp B.h1).1
 omega
theorem zaf (r:Row):yes rs 0 r=false:=rfl
theorem Ye (r:Row):yes rs 1 r=true:=by
 unfold yes lead
 rw[B.h1]
 rfl
theorem zhh {k i lo hi:Nat}(e:rs[k]?=some (some (i,lo,hi)))(r:Row):lead rs r k k=lead rs r (if r i then hi else lo) (if r i then hi else lo):=by
 have hk:=(zuf.mp e).1
 have k2:2<=k:=by
  by_cases h:2<=k
  ·exact h
  ·exfalso
   have:k=0\/k=1:=by omega
   rcases this with z | z<;>subst z
   ·rw[B.h0] at e;cases e
   ·rw[B.h1] at e;cases e
 obtain⟨i',lo',hi',e',_,hlo,hhi,_⟩:=B.rm k k2 hk
 rw[e] at e'
 cases e'
 obtain⟨m,rfl⟩:∃m,k=m+1:=⟨k-1,by omega⟩
 show(match rs[m+1]? with | some (some (i,lo,hi))=>lead rs r m (if r i then hi else lo) | _=>m+1)=_
 rw[e]
 show lead rs r m (if r i then hi else lo)=_
 refine zb4 B r _ _ _ ?_ (zus _) ?_<;>(split<;>omega)
theorem Xv {k i lo hi:Nat}(e:rs[k]?=some (some (i,lo,hi)))(r:Row):yes rs k r=if r i then yes rs hi r else yes rs lo r:=by
 unfold yes
 rw[zhh B e r]
 split<;>rfl
theorem xY {k i lo hi:Nat}(e:rs[k]?=some (some (i,lo,hi))):z8 n rs k=i:=by unfold z8;rw[e]
theorem Mp:z8 n rs 0=n:=by unfold z8;rw[B.h0]
theorem Yg:z8 n rs 1=n:=by unfold z8;rw[B.h1]
theorem WK (k:Nat)(hk:k<rs.length):z8 n rs k<=n:=by
 by_cases h2:2<=k
 ·obtain⟨i,lo,hi,e,hi',_⟩:=B.rm k h2 hk
  rw[xY B e];omega
 ·have:k=0\/k=1:=by omega
  rcases this with z | z<;>subst z
  ·rw[Mp B];exact zus _
  ·rw[Yg B];exact zus _
theorem uz:∀(m k:Nat),k<=m->k<rs.length->∀{r r':Row},(∀i,z8 n rs k<=i->i<n->r i=r' i)->yes rs k r=yes rs k r'
 | m,k,hm,hk,r,r',h=>by
  by_cases h2:2<=k
  ·obtain⟨i,lo,hi,e,hin,hlo,hhi,_,l1,l2⟩:=B.rm k h2 hk
   have lk:=xY B e
   rw[Xv B e,Xv B e,h i (by omega) hin]
   match m,hm with
   | 0,hm=>omega
   | m+1,hm =>
    rw[uz m hi (by omega) (by omega) fun j hj hjn=>h j (by omega) hjn,uz m lo (by omega) (by omega) fun j hj hjn=>h j (by omega) hjn]
  ·have:k=0\/k=1:=by omega
   rcases this with z | z<;>subst z
   ·rfl
   ·rw[Ye B,Ye B]
theorem Zk {k i:Nat}(hk:k<rs.length)(h:i<z8 n rs k)(r:Row)(v:Bool):yes rs k (put r i v)=yes rs k r:=by
 refine uz B k k (zus _) hk fun j hj _=>?_
 unfold put
 rw[if_neg (by omega)]
theorem Zm {k i lo hi:Nat}(e:rs[k]?=some (some (i,lo,hi)))(hk:k<rs.length)(r:Row):yes rs k (put r i false)=yes rs lo r/\yes rs k (put r i true)=yes rs hi r:=by
 have k2:2<=k:=by
  by_cases h:2<=k
  ·exact h
  ·exfalso
   have:k=0\/k=1:=by omega
   rcases this with z | z<;>subst z
   ·rw[B.h0] at e;cases e
   ·rw[B.h1] at e;cases e
 obtain⟨i',lo',hi',e',_,hlo,hhi,_,l1,l2⟩:=B.rm k k2 hk
 rw[e] at e'
 cases e'
 constructor
 ·rw[Xv B e]
  have z:put r i false i=false:=by unfold put;rw[if_pos rfl]
  rw[z,if_neg zug]
  exact Zk B (by omega) l1 r false
 ·rw[Xv B e]
  have z:put r i true i=true:=by unfold put;rw[if_pos rfl]
  rw[z,if_pos rfl]
  exact Zk B (by omega) l2 r true
theorem YD:∀(m k l:Nat),(k<=m/\l<=m)->k<rs.length->l<rs.length->(∀r,yes rs k r=yes rs l r)->k=l
 | m,k,l,hm,hk,hl,h=>by
  by_cases k2:2<=k
  ·obtain⟨i,lo,hi,e,hin,hlo,hhi,hne,l1,l2⟩:=B.rm k k2 hk
   by_cases l2':2<=l
   ·obtain⟨j,lo',hi',e',hjn,hlo',hhi',hne',l1',l2''⟩:=B.rm l l2' hl
    match m,hm with
    | 0,hm=>omega
    | m+1,hm =>
     rcases Nat.lt_trichotomy i j with q | q | q
     ·exfalso
      refine hne (YD m lo hi (by omega) (by omega) (by omega) fun r=>?_)
      have z:=Zm B e hk r
      rw[<-z.1,<-z.2,h,h,Zk B hl (by rw[xY B e'];exact q),Zk B hl (by rw[xY B e'];exact q)]
     ·subst q
      have a1:lo=lo':=YD m lo lo' (by omega) (by omega) (by omega) fun r=>by rw[<-(Zm B e hk r).1,<-(Zm B e' hl r).1,h]
      have a2:hi=hi':=YD m hi hi' (by omega) (by omega) (by omega) fun r=>by rw[<-(Zm B e hk r).2,<-(Zm B e' hl r).2,h]
      subst a1 a2
      exact B.uq k l _ e e'
     ·exfalso
      refine hne' (YD m lo' hi' (by omega) (by omega) (by omega) fun r=>?_)
      have z:=Zm B e' hl r
      rw[<-z.1,<-z.2,<-h,<-h,Zk B hk (by rw[xY B e];exact q),Zk B hk (by rw[xY B e];exact q)]
   ·exfalso
    match m,hm with
    | 0,hm=>omega
    | m+1,hm =>
     have ll:z8 n rs l=n:=by
      have:l=0\/l=1:=by omega
      rcases this with z | z<;>subst z
      ·exact Mp B
      ·exact Yg B
     refine hne (YD m lo hi (by omega) (by omega) (by omega) fun r=>?_)
     have z:=Zm B e hk r
     rw[<-z.1,<-z.2,h,h,Zk B hl (by omega),Zk B hl (by omega)]
  ·by_cases l2':2<=l
   ·exfalso
    obtain⟨j,lo',hi',e',hjn,hlo',hhi',hne',l1',l2''⟩:=B.rm l l2' hl
    match m,hm with
    | 0,hm=>omega
    | m+1,hm =>
     have ll:z8 n rs k=n:=by
      have:k=0\/k=1:=by omega
      rcases this with z | z<;>subst z
      ·exact Mp B
      ·exact Yg B
     refine hne' (YD m lo' hi' (by omega) (by omega) (by omega) fun r=>?_)
     have z:=Zm B e' hl r
     rw[<-z.1,<-z.2,<-h,<-h,Zk B hk (by omega),Zk B hk (by omega)]
   ·have a:k=0\/k=1:=by omega
    have b:l=0\/l=1:=by omega
    have z:=h fun _=>false
    rcases a with a | a<;>rcases b with b | b<;>subst a<;>subst b
    ·rfl
    ·rw[zaf B,Ye B] at z;cases z
    ·rw[zaf B,Ye B] at z;cases z
    ·rfl
end
theorem Zn {rs:List Rm}{x:Rm}{k:Nat}(h:k<rs.length):(rs++[x])[k]?=rs[k]?:=zuI h
theorem Tp {n:Nat}{rs:List Rm}{x:Rm}{k:Nat}(h:k<rs.length):z8 n (rs++[x]) k=z8 n rs k:=by
 unfold z8;rw[Zn h]
theorem Bk.snoc {n:Nat}{rs:List Rm}(B:Bk n rs){i lo hi:Nat}(hin:i<n)(hlo:lo<rs.length)(hhi:hi<rs.length)(hne:lo≠hi)(l1:i<z8 n rs lo)(l2:i<z8 n rs hi)(new:some (i,lo,hi)∉rs):Bk n (rs++[some (i,lo,hi)]) where
 h0:=by rw[Zn (by have:=len2 B;omega)];exact B.h0
 h1:=by rw[Zn (by have:=len2 B;omega)];exact B.h1
 rm:=fun k h2 hk=>by
  rw[zuk,zuJ] at hk
  by_cases hlt:k<rs.length
  ·obtain⟨i',lo',hi',e,a1,a2,a3,a4,a5,a6⟩:=B.rm k h2 hlt
   exact⟨i',lo',hi',by rw[Zn hlt];exact e,a1,a2,a3,a4,by rw[Tp (by omega)];exact a5,by rw[Tp (by omega)];exact a6⟩
  ·have e:k=rs.length:=by omega
   subst e
   exact⟨i,lo,hi,by simp,hin,hlo,hhi,hne,by rw[Tp hlo];exact l1,by rw[Tp hhi];exact l2⟩
 uq:=fun k l x hk hl=>by
  have lk:=(zuf.mp hk).1
  have ll:=(zuf.mp hl).1
  rw[zuk,zuJ] at lk ll
  have last:∀m,m=rs.length->(rs++[some (i,lo,hi)])[m]?=some (some x)->x=(i,lo,hi):=fun m hm h=>by
   subst hm
   simp at h
   exact h.symm
  by_cases h1:k<rs.length
  ·by_cases h2:l<rs.length
   ·rw[Zn h1] at hk
    rw[Zn h2] at hl
    exact B.uq k l x hk hl
   ·exfalso
    have e:=last l (by omega) hl
    subst e
    rw[Zn h1] at hk
    exact new (zuh hk)
  ·by_cases h2:l<rs.length
   ·exfalso
    have e:=last k (by omega) hk
    subst e
    rw[Zn h2] at hl
    exact new (zuh hl)
   ·omega
theorem zb5 {n:Nat}{rs:List Rm}(B:Bk n rs){x:Rm}(r:Row):∀(f k:Nat),k<rs.length->lead (rs++[x]) r f k=lead rs r f k
 | 0,_,_=>rfl
 | f+1,k,hk=>by
  unfold lead
  rw[Zn hk]
  by_cases h2:2<=k
  ·obtain⟨i,lo,hi,e,_,hlo,hhi,_⟩:=B.rm k h2 hk
   rw[e]
   show lead (rs++[x]) r f (if r i then hi else lo)=lead rs r f (if r i then hi else lo)
   exact zb5 B r f _ (by split<;>omega)
  ·have:k=0\/k=1:=by omega
   rcases this with z | z<;>subst z
   ·rw[B.h0]
   ·rw[B.h1]
theorem zdV {n:Nat}{rs:List Rm}(B:Bk n rs){x:Rm}{k:Nat}(hk:k<rs.length)(r:Row):yes (rs++[x]) k r=yes rs k r:=by
 unfold yes;rw[zb5 B r k k hk]
def uf (rs rs':List Rm):Prop:=∃xs,rs'=rs++xs
theorem uf.refl (rs:List Rm):uf rs rs:=⟨[],by simp⟩
theorem uf.trans {a b c:List Rm}(h:uf a b)(k:uf b c):uf a c:=by
 obtain⟨x,rfl⟩:=h
 obtain⟨y,rfl⟩:=k
 exact⟨x++y,by rw[List.append_assoc]⟩
theorem uf.len {a b:List Rm}(h:uf a b):a.length<=b.length:=by
 obtain⟨x,rfl⟩:=h
 rw[zuk];omega
theorem uf.get {a b:List Rm}(h:uf a b){k:Nat}(hk:k<a.length):b[k]?=a[k]?:=by
 obtain⟨x,rfl⟩:=h
 exact zuI hk
theorem uf.snoc (rs:List Rm)(x:Rm):uf rs (rs++[x]):=⟨[x],rfl⟩
theorem uf.z8 {n:Nat}{a b:List Rm}(h:uf a b){k:Nat}(hk:k<a.length):z8 n b k=z8 n a k:=by
 unfold zE.z8;rw[h.get hk]
theorem uf.lead {n:Nat}{a b:List Rm}(B:Bk n a)(h:uf a b)(r:Row):∀(f k:Nat),k<a.length->lead b r f k=lead a r f k
 | 0,_,_=>rfl
 | f+1,k,hk=>by
  unfold zE.lead
  rw[h.get hk]
  by_cases h2:2<=k
  ·obtain⟨i,lo,hi,e,_,hlo,hhi,_⟩:=B.rm k h2 hk
   rw[e]
   show zE.lead b r f (if r i then hi else lo)=zE.lead a r f (if r i then hi else lo)
   exact uf.lead B h r f _ (by split<;>omega)
  ·have:k=0\/k=1:=by omega
   rcases this with z | z<;>subst z
   ·rw[B.h0]
   ·rw[B.h1]
theorem uf.yes {n:Nat}{a b:List Rm}(B:Bk n a)(h:uf a b){k:Nat}(hk:k<a.length)(r:Row):yes b k r=yes a k r:=by
 unfold zE.yes;rw[uf.lead B h r k k hk]
inductive Reach (rs:List Rm):Nat->Nat->Prop
 | refl (k:Nat):Reach rs k k
 | lo {k i lo hi j:Nat} (e:rs[k]?=some (some (i,lo,hi))) (h:Reach rs lo j):Reach rs k j
 | hi {k i lo hi j:Nat} (e:rs[k]?=some (some (i,lo,hi))) (h:Reach rs hi j):Reach rs k j
theorem Reach.step {rs:List Rm}{k j i lo hi:Nat}(h:Reach rs k j)(e:rs[j]?=some (some (i,lo,hi))):Reach rs k lo/\Reach rs k hi:=by
 induction h with
 | refl k=>exact⟨.lo e (.refl _),.hi e (.refl _)⟩
 | lo e' _ ih=>exact⟨.lo e' (ih e).1,.lo e' (ih e).2⟩
 | hi e' _ ih=>exact⟨.hi e' (ih e).1,.hi e' (ih e).2⟩
theorem Reach.closed {rs:List Rm}{S:Nat->Prop}{k j:Nat}(hk:S k)(hc:∀{m i lo hi},S m->rs[m]?=some (some (i,lo,hi))->S lo/\S hi)(h:Reach rs k j):S j:=by
 induction h with
 | refl k=>exact hk
 | lo e _ ih=>exact ih (hc hk e).1
 | hi e _ ih=>exact ih (hc hk e).2
theorem Reach.lt {n:Nat}{rs:List Rm}(B:Bk n rs){k j:Nat}(h:Reach rs k j):k<rs.length->j<rs.length:=by
 induction h with
 | refl k=>exact id
 | @lo k i lo hi j e _ ih =>
  intro hk
  refine ih ?_
  by_cases h2:2<=k
  ·obtain⟨i',lo',hi',e',_,a,b,_⟩:=B.rm k h2 hk
   rw[e] at e'
   cases e'
   omega
  ·exfalso
   have:k=0\/k=1:=by omega
   rcases this with z | z<;>subst z
   ·rw[B.h0] at e;cases e
   ·rw[B.h1] at e;cases e
 | @hi k i lo hi j e _ ih =>
  intro hk
  refine ih ?_
  by_cases h2:2<=k
  ·obtain⟨i',lo',hi',e',_,a,b,_⟩:=B.rm k h2 hk
   rw[e] at e'
   cases e'
   omega
  ·exfalso
   have:k=0\/k=1:=by omega
   rcases this with z | z<;>subst z
   ·rw[B.h0] at e;cases e
   ·rw[B.h1] at e;cases e
theorem few {n:Nat}{rs:List Rm}(B:Bk n rs):∀(m k:Nat),k<=m->k<rs.length->∃c:List Nat,c.length+1<=2^(n-z8 n rs k)/\∀j,Reach rs k j->j<2\/j∈c
 | m,k,hm,hk=>by
  by_cases h2:2<=k
  ·obtain⟨i,lo,hi,e,hin,hlo,hhi,_,l1,l2⟩:=B.rm k h2 hk
   match m,hm with
   | 0,hm=>omega
   | m+1,hm =>
    obtain⟨c1,a1,a2⟩:=few B m lo (by omega) (by omega)
    obtain⟨c2,b1,b2⟩:=few B m hi (by omega) (by omega)
    have lk:z8 n rs k=i:=xY B e
    refine⟨k::(c1++c2),?_,fun j h=>?_⟩
    ·rw[lk,zuo,zuk]
     have p1:2^(n-z8 n rs lo)<=2^(n-i-1):=zuH (by decide) (by omega)
     have p2:2^(n-z8 n rs hi)<=2^(n-i-1):=zuH (by decide) (by omega)
     have p3:2^(n-i)=2^(n-i-1)+2^(n-i-1):=by
      obtain⟨d,hd⟩:∃d,n-i=d+1:=⟨n-i-1,by omega⟩
      rw[hd,Nat.pow_succ,Nat.add_sub_cancel]
      omega
     omega
    ·cases h with
     | refl _=>exact .inr zuv
     | lo e' h' =>
      rw[e] at e'
      cases e'
      rcases a2 j h' with z | z
      ·exact .inl z
      ·exact .inr (zun _ (List.mem_append_left _ z))
     | hi e' h' =>
      rw[e] at e'
      cases e'
      rcases b2 j h' with z | z
      ·exact .inl z
      ·exact .inr (zun _ (zut _ z))
  ·refine⟨[],Nat.one_le_two_pow,fun j h=>.inl ?_⟩
   have:k=0\/k=1:=by omega
   cases h with
   | refl _=>omega
   | lo e' _ =>
    exfalso
    rcases this with z | z<;>subst z
    ·rw[B.h0] at e';cases e'
    ·rw[B.h1] at e';cases e'
   | hi e' _ =>
    exfalso
    rcases this with z | z<;>subst z
    ·rw[B.h0] at e';cases e'
    ·rw[B.h1] at e';cases e'
theorem sub_len {α:Type}[DecidableEq α]:∀{xs ys:List α},xs.Nodup->(∀x∈xs,x∈ys)->xs.length<=ys.length
 | [],_,_,_=>zuy _
 | x::xs,ys,nd,h=>by
  obtain⟨h1,h2⟩:=List.nodup_cons.mp nd
  have hx:=h x zuv
  have ih:=sub_len (xs:=xs) (ys:=ys.erase x) h2 fun y hy=>(List.mem_erase_of_ne (fun e:y=x=>h1 (by rw[<-e];exact hy))).mpr (h y (zun _ hy))
  rw[List.length_erase_of_mem hx] at ih
  have:=List.length_pos_of_mem hx
  rw[zuo]
  omega
theorem zhi {n:Nat}{rs:List Rm}(B:Bk n rs){k:Nat}(hk:k<rs.length){xs:List Nat}(nd:xs.Nodup)(h:∀x∈xs,Reach rs k x):xs.length<=2^n+1:=by
 obtain⟨c,c1,c2⟩:=few B k k (zus _) hk
 have q:=sub_len (ys:=0::1::c) nd fun x hx=>by
  rcases c2 x (h x hx) with z | z
  ·have:x=0\/x=1:=by omega
   rcases this with w | w<;>simp[w]
  ·exact zun _ (zun _ z)
 have p:2^(n-z8 n rs k)<=2^n:=zuH (by decide) (by omega)
 rw[zuo,zuo] at q
 omega
theorem zb6:∀{xs ys:List Int},xs.Pairwise (·<·)->ys.Pairwise (·<·)->(∀x,x∈xs↔x∈ys)->xs=ys
 | [],[],_,_,_=>rfl
 | [],y::ys,_,_,h=>by have:=(h y).mpr zuv;cases this
 | x::xs,[],_,_,h=>by have:=(h x).mp zuv;cases this
 | x::xs,y::ys,hx,hy,h=>by
  obtain⟨a1,a2⟩:=List.pairwise_cons.mp hx
  obtain⟨b1,b2⟩:=List.pairwise_cons.mp hy
  have e:x=y:=by
   rcases List.mem_cons.mp ((h x).mp zuv) with z | z
   ·exact z
   ·rcases List.mem_cons.mp ((h y).mpr zuv) with w | w
    ·exact w.symm
    ·have:=b1 x z
     have:=a1 y w
     omega
  subst e
  rw[zb6 a2 b2 fun z=>⟨fun hz=>?_,fun hz=>?_⟩]
  ·rcases List.mem_cons.mp ((h z).mp (zun _ hz)) with w | w
   ·have:=a1 z hz;omega
   ·exact w
  ·rcases List.mem_cons.mp ((h z).mpr (zun _ hz)) with w | w
   ·have:=b1 z hz;omega
   ·exact w
theorem Tq:∀{xs:List Int},xs.Pairwise (·<=·)->xs.Nodup->xs.Pairwise (·<·)
 | [],_,_=>.nil
 | x::xs,h,nd=>by
  obtain⟨a1,a2⟩:=List.pairwise_cons.mp h
  obtain⟨b1,b2⟩:=List.nodup_cons.mp nd
  refine List.pairwise_cons.mpr ⟨fun y hy=>?_,Tq a2 b2⟩
  have:=a1 y hy
  have:x≠y:=fun e=>b1 (e ▸ hy)
  omega
end zE
namespace L2
theorem hu9 {A:PySem.Around}{k:Nat}(hr:ZJ k A):A.units+9<PySem.cLine:=by have:=hr.units;omega
end L2
namespace Y9
open PySem L2 zE
abbrev wO:=Addr->Prop
def zlW (F:wO)(H H':Hp):Prop:=∀x o,H x=some o->¬F x->H' x=some o
def znq (H:Hp)(F F':wO):Prop:=∀x,F' x->F x\/H x=none
def zb7:List Str:=["room", "size", "order", "enter", "worth_at", "below"]
structure Pn (C:Addr)(B:Hp->Addr->List Str->List Rm->wO->Prop):Prop where
 ins:∀{H b os rs F},B H b os rs F->∃dx fs,H b=some (.ins C dx fs)/\∀m∈zb7,fs.lookup m=none
 frame:∀{H H' b os rs F},B H b os rs F->(∀x o,H x=some o->F x->H' x=some o)->xq H H'->B H' b os rs F
 there:∀{H b os rs F x},B H b os rs F->F x->H x≠none
 bk:∀{H b os rs F},B H b os rs F->Bk os.length rs
 ord:∀{H b os rs F},B H b os rs F->Kq os
theorem Pn.same {C:Addr}{B:Hp->Addr->List Str->List Rm->wO->Prop}(L:Pn C B){H H':Hp}{b:Addr}{os:List Str}{rs:List Rm}{F:wO}(h:B H b os rs F)(g:Same H H'):B H' b os rs F :=
 L.frame h (fun x o e _=>g x o e) (xq.of g)
def znr (os:List Str)(H:Hp)(x:Rm)(v:V):Prop:=match x with
 | none=>v=.non
 | some (i,lo,hi)=>∃(p:Addr) (y:Str),v=.ref p/\os[i]?=some y/\H p=some (.tup [.str y,.int (lo:Nat),.int (hi:Nat)])
def zlX (os:List Str)(r:Row):Str->Bool:=fun x=>r (ix os x)
section
variable (B:Hp->Addr->List Str->List Rm->wO->Prop)(K:Frag)(C:Addr)
def zag:Sp:=fun vs H Q _=>∃(b dx l:Addr) (os:List Str),vs=[.ref b,.ref l]/\H b=some (.ins C dx [])/\b≠dx/\zT K H l (os.map V.str)/\Kq os /\
 ∀(H':Hp) (F:wO),(∀x o,H x=some o->x≠b->H' x=some o)->B H' b os [none,none] F->(∀x,F x->x=b\/x=dx\/H x=none)->Q .non H'
def tZ:Sp:=fun vs H Q _=>∃(b:Addr) (os:List Str) (rs:List Rm) (F:wO),vs=[.ref b]/\B H b os rs F/\∀(l:Addr) (H':Hp),Same H H'->H l=none->H' l=some (.lst (os.map V.str))->Q (.ref l) H'
def zah:Sp:=fun vs H Q _=>∃(b:Addr) (os:List Str) (rs:List Rm) (F:wO) (k:Nat) (x:Rm),vs=[.ref b,.int k]/\B H b os rs F/\rs[k]?=some x/\∀(v:V) (H':Hp),Same H H'->znr os H' x v->Q v H'
def zpg (b:Addr)(os:List Str)(H:Hp)(rs:List Rm)(F:wO)(n:Nat)(f:Row->Bool)(Q:VK):Prop:=∀(k:Nat) (rs':List Rm) (F':wO) (H':Hp),zlW F H H'->xq H H'->B H' b os rs' F'->znq H F F'->uf rs rs'->k<rs'.length->(∀r,yes rs' k r=f r)->rs'.length<=rs.length+n->Q (.int (k:Nat)) H'
def Ky:Sp:=fun vs H Q _=>∃(b p:Addr) (os:List Str) (rs:List Rm) (F:wO) (s:Sn),vs=[.ref b,.ref p]/\B H b os rs F/\rs.length<=8000000/\Sy H s p/\s.QK os/\s.count<=200/\s.depth<=24/\zpg B b os H rs F 200000 (fun r=>s.val (zlX os r)) Q
end
theorem ziR {xs:List V}{n:Nat}:Qa xs none (some (n:Int))=xs.take n:=by
 unfold Qa
 rw[HT.zdA,HT.Vt,List.drop_zero,Nat.sub_zero]
 by_cases h:n<=xs.length
 ·rw[Nat.min_eq_left h]
 ·rw[Nat.min_eq_right (by omega),zuE,List.take_of_length_le (by omega)]
end Y9
namespace L2
open PySem PySem.Spec PyProof.Rows
theorem zhj:bootBuiltins "sorted"=some (.builtin "sorted"):=by decide +kernel
theorem zdW {κ:Type}[DecidableEq κ]{k:κ}:∀{kvs:List (κ×V)},(vm kvs k).isSome=decide (k∈kvs.map (·.1))
 | []=>rfl
 | p::r=>by
  by_cases e:p.1=k
  ·rw[vo e]
   exact(decide_eq_true (by rw[zuA,e];exact zuv)).symm
  ·rw[wN e,zdW (kvs:=r)]
   congr 1
   rw[zuA,List.mem_cons]
   exact propext ⟨.inr,fun h=>h.elim (fun z=>absurd z.symm e) id⟩
end L2
namespace zE
open L2
structure Dfs (rs:List Rm)(k0:Nat)(ks ts:List Nat):Prop where
 nd:ks.Nodup
 r1:∀x∈ks,Reach rs k0 x
 r2:∀x∈ts,Reach rs k0 x
 st:k0∈ks\/k0∈ts
 cl:∀m i lo hi,m∈ks->rs[m]?=some (some (i,lo,hi))->(lo∈ks\/lo∈ts)/\(hi∈ks\/hi∈ts)
 len:ts.length<=1+2*ks.length
theorem Dfs.start (rs:List Rm)(k0:Nat):Dfs rs k0 [] [k0]:=⟨List.nodup_nil,fun x h=>by simp at h,fun x h=>by rw[List.mem_singleton.mp h];exact .refl _,.inr zuv,fun m i lo hi h=>by simp at h,zus _⟩
theorem Mq {ks ts:List Nat}{x y:Nat}(hx:x∈ks)(h:y∈ks\/y∈ts++[x]):y∈ks\/y∈ts:=by
 rcases h with h | h
 ·exact .inl h
 ·rcases List.mem_append.mp h with h | h
  ·exact .inr h
  ·rw[List.mem_singleton.mp h];exact .inl hx
theorem Dfs.skip {rs:List Rm}{k0 x:Nat}{ks ts:List Nat}(D:Dfs rs k0 ks (ts++[x]))(hx:x∈ks):Dfs rs k0 ks ts :=
 ⟨D.nd,D.r1,fun y h=>D.r2 y (List.mem_append_left _ h),Mq hx D.st,fun m i lo hi h e=>⟨Mq hx (D.cl m i lo hi h e).1,Mq hx (D.cl m i lo hi h e).2⟩,by have:=D.len;rw[zuk] at this;omega⟩
theorem zgw {ks:List Nat}{x:Nat}(h:ks.Nodup)(hx:x∉ks):(ks++[x]).Nodup:=by
 rw[List.nodup_append]
 refine⟨h,by simp,fun a ha b hb=>?_⟩
 rw[List.mem_singleton.mp hb]
 exact fun e=>hx (e ▸ ha)
theorem zff {ks ts us:List Nat}{x y:Nat}(h:y∈ks\/y∈ts++[x]):y∈ks++[x]\/y∈ts++us:=by
 rcases h with h | h
 ·exact .inl (List.mem_append_left _ h)
 ·rcases List.mem_append.mp h with h | h
  ·exact .inr (List.mem_append_left _ h)
  ·exact .inl (zut _ h)
theorem Dfs.add {rs:List Rm}{k0 x:Nat}{ks ts:List Nat}(us:List Nat)(D:Dfs rs k0 ks (ts++[x]))(hx:x∉ks)(h1:∀y∈us,Reach rs k0 y)(h2:∀i lo hi,rs[x]?=some (some (i,lo,hi))->lo∈us/\hi∈us)(h3:us.length<=2):Dfs rs k0 (ks++[x]) (ts++us):=by
 refine⟨zgw D.nd hx,fun y h=>?_,fun y h=>?_,zff D.st,fun m i lo hi h e=>?_,?_⟩
 ·rcases List.mem_append.mp h with h | h
  ·exact D.r1 y h
  ·exact D.r2 y (zut _ h)
 ·rcases List.mem_append.mp h with h | h
  ·exact D.r2 y (List.mem_append_left _ h)
  ·exact h1 y h
 ·rcases List.mem_append.mp h with h | h
  ·exact⟨zff (D.cl m i lo hi h e).1,zff (D.cl m i lo hi h e).2⟩
  ·rw[List.mem_singleton.mp h] at e
   exact⟨.inr (zut _ (h2 i lo hi e).1),.inr (zut _ (h2 i lo hi e).2)⟩
 ·have:=D.len
  rw[zuk,zuJ] at this
  rw[zuk,zuk,zuJ]
  omega
theorem Dfs.node {rs:List Rm}{k0 x i lo hi:Nat}{ks ts:List Nat}(D:Dfs rs k0 ks (ts++[x]))(hx:x∉ks)(e:rs[x]?=some (some (i,lo,hi))):Dfs rs k0 (ks++[x]) (ts++[lo,hi]):=by
 have r:=(D.r2 x (zut _ zuv)).step e
 refine D.add [lo,hi] hx (fun y h=>?_) (fun i' lo' hi' e'=>?_) (zus _)
 ·simp at h
  rcases h with h | h<;>subst h
  ·exact r.1
  ·exact r.2
 ·rw[e] at e'
  cases e'
  exact⟨by simp,by simp⟩
theorem Dfs.done {rs:List Rm}{k0:Nat}{ks:List Nat}(D:Dfs rs k0 ks [])(j:Nat):j∈ks↔Reach rs k0 j:=by
 have no:∀y,(y∈ks\/y∈([]:List Nat))->y∈ks:=fun y h=>h.elim id (fun z=>by cases z)
 refine⟨D.r1 j,fun h=>?_⟩
 exact Reach.closed (S:=fun y=>y∈ks) (no _ D.st) (fun {m i lo hi} hm e=>⟨no _ (D.cl m i lo hi hm e).1,no _ (D.cl m i lo hi hm e).2⟩) h
theorem Dfs.room {n:Nat}{rs:List Rm}(B:Bk n rs){k0 x:Nat}{ks ts:List Nat}(D:Dfs rs k0 ks (ts++[x]))(h0:k0<rs.length)(hx:x∉ks):ks.length+1<=rs.length:=by
 have z:=sub_len (xs:=ks++[x]) (ys:=List.range rs.length) (zgw D.nd hx) fun y h=>?_
 ·rw[zuk,List.length_range] at z;exact z
 ·rw[List.mem_range]
  rcases List.mem_append.mp h with h | h
  ·exact(D.r1 y h).lt B h0
  ·rw[List.mem_singleton.mp h]
   exact(D.r2 x (zut _ zuv)).lt B h0
structure uD (rs:List Rm)(k:Nat)(ms:List Int):Prop where
 up:ms.Pairwise (·<·)
 mem:∀x,x∈ms↔∃j:Nat,x=j/\Reach rs k j
theorem uD.eq {rs:List Rm}{k:Nat}{ms ns:List Int}(h:uD rs k ms)(g:uD rs k ns):ms=ns:=zb6 h.up g.up fun x=>(h.mem x).trans (g.mem x).symm
theorem uD.of {rs:List Rm}{k:Nat}{ks:List Nat}{ms:List Int}(nd:ks.Nodup)(h:∀j,j∈ks↔Reach rs k j)(pm:ms.Perm (ks.map fun(n:Nat)=>(n:Int)))(up:ms.Pairwise (·<=·)):uD rs k ms:=by
 have nd':(ks.map fun(n:Nat)=>(n:Int)).Nodup:=by
  rw[List.Nodup,List.pairwise_map]
  exact nd.imp fun h e=>h (by omega)
 refine⟨Tq up (pm.nodup_iff.mpr nd'),fun x=>?_⟩
 rw[pm.mem_iff,List.mem_map]
 exact⟨fun⟨j,hj,e⟩=>⟨j,e.symm,(h j).mp hj⟩,fun⟨j,e,hj⟩=>⟨j,(h j).mpr hj,e.symm⟩⟩
theorem uD.len {n:Nat}{rs:List Rm}(B:Bk n rs){k:Nat}(hk:k<rs.length){ms:List Int}(h:uD rs k ms):ms.length<=2^n+1:=by
 have z:=zhi B hk (xs:=ms.map Int.toNat) ?_ fun x hx=>?_
 ·rw[zuc] at z;exact z
 ·rw[List.Nodup,List.pairwise_map]
  refine List.Pairwise.imp_of_mem (fun {a b} ha hb hl e=>?_) h.up
  obtain⟨j,e1,_⟩:=(h.mem a).mp ha
  obtain⟨j',e2,_⟩:=(h.mem b).mp hb
  omega
 ·obtain⟨y,hy,e⟩:=List.mem_map.mp hx
  obtain⟨j,e1,r⟩:=(h.mem y).mp hy
  have:x=j:=by omega
  rw[this];exact r
end zE
namespace zE
def Means (rs:List Rm)(k:Nat)(f:Row->Bool):Prop:=k<rs.length/\∀r,yes rs k r=f r
end zE
namespace L2
open PySem
theorem zlY {X:Cx}{all rest:List Stmt}{D:Ends}{Tf:TS->TS}{Pre:St->Hp->Prop}(Mid:St->Hp->Prop)(h1:∀t,PSs X rest t->PSs X all (Tf t))(h:∀u:TS,(∀ σ H,Mid σ H->u D σ H)->∀ σ H,Pre σ H->Tf u D σ H)
  (hr:∃t,PSs X rest t/\∀ σ H,Mid σ H->t D σ H):∃t,PSs X all t/\∀ σ H,Pre σ H->t D σ H :=
 let ⟨t,a,b⟩:=hr
 ⟨Tf t,h1 t a,h t b⟩
theorem zph {X:Cx}{all:List Stmt}{D:Ends}{σ:St}{H:Hp}(h:∃t,PSs X all t/\∀ σ' H',(σ'=σ/\H'=H)->t D σ' H'):∃t,PSs X all t/\t D σ H :=
 let ⟨t,a,b⟩:=h
 ⟨t,a,b _ _ ⟨rfl,rfl⟩⟩
end L2
namespace Y9
open PySem L2 zE
section
variable (B:Hp->Addr->List Str->List Rm->wO->Prop)
structure Led (H0:Hp)(b:Addr)(os:List Str)(n:Nat)(H:Hp)(rs:List Rm)(F:wO):Prop where
 same:Same H0 H
 away:∀x,F x->H0 x=none
 bk:B H b os rs F
 len:rs.length<=n
end
section
variable {B:Hp->Addr->List Str->List Rm->wO->Prop}{C:Addr}{H0:Hp}{b:Addr}{os:List Str}{n:Nat}{H:Hp}{rs:List Rm}{F:wO}
theorem Led.new (L:Pn C B)(h:Led B H0 b os n H rs F){H':Hp}(g:Same H H'):Led B H0 b os n H' rs F:=⟨h.same.trans g,h.away,L.same h.bk g,h.len⟩
theorem Led.grow (h:Led B H0 b os n H rs F){m:Nat}{H':Hp}{rs':List Rm}{F':wO}(aw:zlW F H H')(hB:B H' b os rs' F')(nf:znq H F F')(hl:rs'.length<=rs.length+m):Led B H0 b os (n+m) H' rs' F' :=
 ⟨fun x o e=>aw x o (h.same _ _ e) fun z=>(by have:=h.away x z;rw[this] at e;cases e),fun x hx=>(nf x hx).elim (h.away x) (fun z=>h.same.free z),hB,zux hl (Nat.add_le_add_right h.len _)⟩
end
end Y9
namespace zE
open Y9
def zbp (b:Nat):Row:=fun i=>b.testBit i
def bits (r:Row):Nat->Nat
 | 0=>0
 | n+1=>if r n then bits r n+2^n else bits r n
theorem uY (r:Row):∀n,bits r n<2^n
 | 0=>Nat.zero_lt_one
 | n+1=>by
  have ih:=uY r n
  unfold bits
  rw[Nat.pow_succ]
  split<;>omega
theorem YF (r:Row):∀{n i:Nat},i<n->(bits r n).testBit i=r i
 | 0,i,h=>by omega
 | n+1,i,h=>by
  have lt:=uY r n
  have z:(bits r n).testBit n=false:=Nat.testBit_lt_two_pow lt
  unfold bits
  by_cases e:i=n
  ·subst e
   cases hr:r i
   ·rw[if_neg zug];exact z
   ·rw[if_pos rfl,vA,z];rfl
  ·have hi:i<n:=by omega
   split
   ·rw[Sw hi];exact YF r hi
   ·exact YF r hi
theorem VB {n a b:Nat}(ha:a<2^n)(hb:b<2^n)(h:∀i,i<n->a.testBit i=b.testBit i):a=b :=
 Nat.eq_of_testBit_eq fun i=>by
  by_cases hi:i<n
  ·exact h i hi
  ·have:2^n<=2^i:=zuH (by decide) (by omega)
   rw[Nat.testBit_lt_two_pow (by omega),Nat.testBit_lt_two_pow (by omega)]
theorem zdX {r:Row}{n i:Nat}(hi:i<n)(v:Bool):bits (put r i v) n=zZ (bits r n) i v:=by
 refine VB (uY _ _) (yE (uY _ _) hi) fun j hj=>?_
 rw[YF _ hj,yd,YF _ hj]
 rfl
theorem SQ {n b:Nat}(h:b<2^n):bits (zbp b) n=b:=VB (uY _ _) h fun i hi=>by rw[YF _ hi];rfl
theorem ziS {n:Nat}{rs:List Rm}(B:Bk n rs){k:Nat}(hk:k<rs.length)(r:Row):yes rs k (zbp (bits r n))=yes rs k r :=
 uz B k k (zus _) hk fun i _ hi=>YF r hi
theorem zgx {n N M:Nat}{f g:Nat->Bool}(h:yP n N f)(k:yP n M g)(e:∀b,b<2^n->f b=g b):N=M :=
 Nat.eq_of_testBit_eq fun i=>by
  rw[h i,k i]
  by_cases hi:i<2^n
  ·rw[e i hi]
  ·rw[decide_eq_false hi];rfl
theorem Jv {n N:Nat}{f:Nat->Bool}(h:yP n N f){b:Nat}(hb:b<2^n):N.testBit b=f b:=by rw[h b,decide_eq_true hb];rfl
def Free (n:Nat)(f:Nat->Bool)(p:Nat):Prop:=∀b,b<2^n->∀v,f (zZ b p v)=f b
theorem wj (b p:Nat):zZ b p (b.testBit p)=b:=by unfold zZ;rw[if_pos rfl]
theorem Free.zkd {n p:Nat}{f:Nat->Bool}(h:∀b,b<2^n->f (zZ b p (!b.testBit p))=f b):Free n f p:=fun b hb v=>by
 by_cases e:v=b.testBit p
 ·rw[e,wj]
 ·have:v=!b.testBit p:=by cases v<;>cases hh:b.testBit p<;>simp_all
  rw[this];exact h b hb
theorem zbq {n:Nat}{f:Nat->Bool}(h:∀p,p<n->Free n f p):∀b,b<2^n->f b=f 0:=by
 have key:∀m b,m<=n->b<2^n->(∀i,m<=i->i<n->b.testBit i=false)->f b=f 0:=by
  intro m
  induction m with
  | zero =>
   intro b _ hb hz
   have:b=0:=VB hb (Nat.two_pow_pos n) fun i hi=>by rw[hz i (zuy _) hi,Nat.zero_testBit]
   rw[this]
  | succ m ih =>
   intro b hm hb hz
   rw[<-h m (by omega) b hb false]
   refine ih _ (by omega) (yE hb (by omega)) fun i hi hin=>?_
   rw[yd]
   by_cases e:i=m
   ·rw[if_pos e]
   ·rw[if_neg e];exact hz i (by omega) hin
 exact fun b hb=>key n b (zus _) hb fun i hi hin=>by omega
theorem zlZ {n:Nat}{rs:List Rm}(B:Bk n rs){k p:Nat}(hk:k<rs.length)(hp:p<n)(h:∀i,i<=p->∀r v,yes rs k (put r i v)=yes rs k r):p<z8 n rs k:=by
 by_cases k2:2<=k
 ·obtain⟨i,lo,hi,e,hin,hlo,hhi,hne,l1,l2⟩:=B.rm k k2 hk
  rw[xY B e]
  by_cases hip:i<=p
  ·exfalso
   refine hne (YD B (max lo hi) lo hi ⟨Nat.le_max_left _ _,Nat.le_max_right _ _⟩ (by omega) (by omega) fun r=>?_)
   have z:=Zm B e hk r
   rw[<-z.1,<-z.2,h i hip,h i hip]
  ·omega
 ·have:k=0\/k=1:=by omega
  rcases this with z | z<;>subst z
  ·rw[Mp B];exact hp
  ·rw[Yg B];exact hp
theorem ziT {n m p k0 k1:Nat}{rs:List Rm}{f:Nat->Bool}(B:Bk n rs)(hp:p<n)(m0:k0<rs.length)(m1:k1<rs.length)
  (y0:∀r,yes rs k0 r=f (zZ (bits r n) p false))(y1:∀r,yes rs k1 r=f (zZ (bits r n) p true))(fr:∀i,i<p->Free n f i)
  (dep:∃b,b<2^n/\f (zZ b p false)≠f (zZ b p true))(old:∀j,j<m->¬∀r,yes rs j r=f (bits r n))(hl:∀j,m<=j->j<rs.length->p<z8 n rs j) :
  Bk n (rs++[some (p,k0,k1)])/\∀r,yes (rs++[some (p,k0,k1)]) rs.length r=f (bits r n):=by
 have pb:∀(r:Row) v,zZ (bits r n) p v<2^n:=fun r v=>yE (uY _ _) hp
 have low:∀(k:Nat) (w:Bool),k<rs.length->(∀r,yes rs k r=f (zZ (bits r n) p w))->p<z8 n rs k:=fun k w hk hy=>zlZ B hk hp fun i hi r v=>by
  rw[hy,hy,zdX (by omega)]
  by_cases e:i=p
  ·subst e
   congr 1
   refine VB (yE (yE (uY _ _) hp) hp) (pb r w) fun j _=>?_
   rw[yd,yd,yd]
   by_cases e:j=i
   ·rw[if_pos e,if_pos e]
   ·rw[if_neg e,if_neg e,if_neg e]
  ·rw[<-fr i (by omega) _ (pb r w) v]
   congr 1
   refine VB (yE (yE (uY _ _) (by omega)) hp) (yE (pb r w) (by omega)) fun j _=>?_
   rw[yd,yd,yd,yd]
   by_cases e1:j=p
   ·rw[if_pos e1,if_pos e1,if_neg (by omega)]
   ·rw[if_neg e1,if_neg e1]
 have ne:k0≠k1:=fun e=>by
  subst e
  obtain⟨b,hb,hne⟩:=dep
  refine hne ?_
  have a:=y0 (zbp b)
  have c:=y1 (zbp b)
  rw[SQ hb] at a c
  exact a.symm.trans c
 have fin:∀(R:List Rm) (k:Nat),Bk n R->R[k]?=some (some (p,k0,k1))->(∀j,j<rs.length->∀r,yes R j r=yes rs j r)->∀r,yes R k r=f (bits r n):=fun R k BR e same r=>by
  rw[Xv BR e,same _ m1,same _ m0,y0,y1]
  have hb:=YF r hp
  cases hr:r p
  ·rw[if_neg zug]
   rw[hr] at hb
   conv=>rhs;rw[<-wj (bits r n) p,hb]
  ·rw[if_pos rfl]
   rw[hr] at hb
   conv=>rhs;rw[<-wj (bits r n) p,hb]
 have new:some (p,k0,k1)∉rs:=fun h=>by
  obtain⟨j,hj,e⟩:=zuS h
  have e':rs[j]?=some (some (p,k0,k1)):=by rw[zud hj,e]
  by_cases hm:j<m
  ·exact old j hm (fin rs j B e' fun _ _ _=>rfl)
  ·have:=hl j (by omega) hj
   rw[xY B e'] at this
   omega
 have B':=B.snoc hp m0 m1 ne (low k0 false m0 y0) (low k1 true m1 y1) new
 refine⟨B',fin _ _ B' (by simp) fun j hj r=>?_⟩
 exact zdV B hj r
structure zdY (n:Nat)(rs:List Rm)(ts:List Nat):Prop where
 len:ts.length=rs.length
 tab:∀(j t:Nat),ts[j]?=some t->yP n t (fun b=>yes rs j (zbp b))
theorem zdY.snoc {n:Nat}{rs:List Rm}(B:Bk n rs){ts:List Nat}{x:Rm}{t:Nat}(h:zdY n rs ts)(k:yP n t (fun b=>yes (rs++[x]) rs.length (zbp b))):zdY n (rs++[x]) (ts++[t]):=by
 refine⟨by rw[zuk,zuk,h.len];rfl,fun j u e=>?_⟩
 by_cases hj:j<ts.length
 ·rw[zuI hj] at e
  refine vU (h.tab j u e) fun b _=>?_
  rw[zdV B (by rw[<-h.len];exact hj)]
 ·have lt:=(zuf.mp e).1
  rw[zuk,zuJ] at lt
  have ej:j=ts.length:=by omega
  subst ej
  simp at e
  subst e
  rw[h.len]
  exact k
theorem zdY.find {n:Nat}{rs:List Rm}(B:Bk n rs){ts:List Nat}(h:zdY n rs ts){j t:Nat}{f:Nat->Bool}(e:ts[j]?=some t)(tb:yP n t f)(r:Row):yes rs j r=f (bits r n):=by
 have hj:j<rs.length:=by rw[<-h.len];exact(zuf.mp e).1
 rw[<-ziS B hj,<-Jv tb (uY r n),Jv (h.tab j t e) (uY r n)]
theorem zdY.same {n:Nat}{rs:List Rm}{ts:List Nat}(h:zdY n rs ts){j t:Nat}{f:Nat->Bool}(hj:j<rs.length)(tb:yP n t f)(hy:∀r,yes rs j r=f (bits r n)):ts[j]?=some t:=by
 have lt:j<ts.length:=by rw[h.len];exact hj
 rw[zud lt]
 congr 1
 refine zgx (h.tab j _ (zud lt)) tb fun b hb=>?_
 show yes rs j (zbp b)=f b
 rw[hy,SQ hb]
end zE
namespace Y9
open PySem L2 zE
structure Nums (ts:List Nat)(kvs:List (Key×V)):Prop where
 get:∀(j t:Nat),ts[j]?=some t->vm kvs (Sum.inl (t:Int))=some (.int (j:Nat))
 non:∀t:Nat,t∉ts->vm kvs (Sum.inl (t:Int))=none
 len:kvs.length<=ts.length
theorem Nums.snoc {ts:List Nat}{kvs:List (Key×V)}(h:Nums ts kvs){t:Nat}(ht:t∉ts):Nums (ts++[t]) (putK kvs (Sum.inl (t:Int)) (.int (ts.length:Nat))):=by
 refine⟨fun j u e=>?_,fun u hu=>?_,?_⟩
 ·rw[zab]
  by_cases hj:j<ts.length
  ·rw[zuI hj] at e
   have hm:=zuh e
   rw[if_neg fun z=>?_]
   ·exact h.get j u e
   ·have:(u:Int)=(t:Int):=Sum.inl.inj z
    have:u=t:=by omega
    exact ht (this ▸ hm)
  ·have lt:=(zuf.mp e).1
   rw[zuk,zuJ] at lt
   have ej:j=ts.length:=by omega
   subst ej
   simp at e
   subst e
   rw[if_pos rfl]
 ·rw[zab,if_neg fun z=>?_]
  ·exact h.non u fun z=>hu (List.mem_append_left _ z)
  ·have:(u:Int)=(t:Int):=Sum.inl.inj z
   have:u=t:=by omega
   exact hu (this ▸ zut _ zuv)
 ·have:=Wh kvs (Sum.inl (t:Int)) (.int (ts.length:Nat))
  have:=h.len
  rw[zuk,zuJ]
  omega
def zns (n j:Nat):Rm->List V
 | none=>[.int (n:Nat),.int (j:Nat),.int (j:Nat)]
 | some (i,lo,hi)=>[.int (i:Nat),.int (lo:Nat),.int (hi:Nat)]
def Xw (j:Nat)(x:Rm)(v:Bool):Nat:=match x with
 | none=>j
 | some (_,lo,hi)=>if v then hi else lo
def Mr (ml rl tl nd:Addr):List (Str×V):=[("marks", .ref ml),("rooms", .ref rl),("tables", .ref tl),("numbers", .ref nd)]
structure Parts (C:Addr)(H:Hp)(b:Addr)(os:List Str)(rs:List Rm)(F:wO)(dx ml rl tl nd:Addr)(rv:List V)(ts:List Nat)(kvs:List (Key×V)):Prop where
 hb:H b=some (.ins C dx (Mr ml rl tl nd))
 hm:H ml=some (.lst (os.map V.str))
 hr:H rl=some (.lst rv)
 ht:H tl=some (.lst (ts.map fun t=>V.int (t:Nat)))
 hd:H nd=some (.dK kvs)
 mr:ml≠rl
 mt:ml≠tl
 rt:rl≠tl
 ord:Kq os
 bk:Bk os.length rs
 len:rv.length=rs.length
 rm:∀(j:Nat) x,rs[j]?=some x->∃p,rv[j]?=some (.ref p)/\H p=some (.tup (zns os.length j x))
 tabs:zdY os.length rs ts
 nums:Nums ts kvs
 ft:∀x,F x↔(x=b\/x=ml\/x=rl\/x=tl\/x=nd)
def yc (C:Addr)(H:Hp)(b:Addr)(os:List Str)(rs:List Rm)(F:wO):Prop:=∃dx ml rl tl nd rv ts kvs,Parts C H b os rs F dx ml rl tl nd rv ts kvs
theorem Parts.frame {C:Addr}{H H':Hp}{b:Addr}{os:List Str}{rs:List Rm}{F:wO}{dx ml rl tl nd:Addr}{rv:List V}{ts:List Nat}{kvs:List (Key×V)}(h:Parts C H b os rs F dx ml rl tl nd rv ts kvs)
  (s:∀x o,H x=some o->F x->H' x=some o)(t:xq H H'):Parts C H' b os rs F dx ml rl tl nd rv ts kvs :=
 {h with
  hb:=s _ _ h.hb ((h.ft _).mpr (.inl rfl))
  hm:=s _ _ h.hm ((h.ft _).mpr (.inr (.inl rfl)))
  hr:=s _ _ h.hr ((h.ft _).mpr (.inr (.inr (.inl rfl))))
  ht:=s _ _ h.ht ((h.ft _).mpr (.inr (.inr (.inr (.inl rfl)))))
  hd:=s _ _ h.hd ((h.ft _).mpr (.inr (.inr (.inr (.inr rfl)))))
  rm:=fun j x e=>let ⟨p,a,c⟩:=h.rm j x e;⟨p,a,t _ _ c⟩ }
theorem xU (C:Addr):Pn C (yc C) where
 ins:=fun⟨dx,ml,rl,tl,nd,rv,ts,kvs,h⟩=>⟨dx,_,h.hb,fun m hm=>by
  simp only[zb7,List.mem_cons,zuC,or_false] at hm
  rcases hm with z | z | z | z | z | z<;>subst z<;>rfl⟩
 frame:=fun⟨dx,ml,rl,tl,nd,rv,ts,kvs,h⟩ s t=>⟨dx,ml,rl,tl,nd,rv,ts,kvs,h.frame s t⟩
 there:=fun⟨dx,ml,rl,tl,nd,rv,ts,kvs,h⟩ hx=>by
  rcases (h.ft _).mp hx with z | z | z | z | z<;>subst z
  ·rw[h.hb];exact fun z=>by cases z
  ·rw[h.hm];exact fun z=>by cases z
  ·rw[h.hr];exact fun z=>by cases z
  ·rw[h.ht];exact fun z=>by cases z
  ·rw[h.hd];exact fun z=>by cases z
 bk:=fun⟨_,_,_,_,_,_,_,_,h⟩=>h.bk
 ord:=fun⟨_,_,_,_,_,_,_,_,h⟩=>h.ord
theorem Parts.more {C:Addr}{H H':Hp}{b:Addr}{os:List Str}{rs:List Rm}{F:wO}{dx ml rl tl nd:Addr}{rv:List V}{ts:List Nat}{kvs:List (Key×V)}(h:Parts C H b os rs F dx ml rl tl nd rv ts kvs)
  {i lo hi t:Nat}{q:Addr}(t':xq H H')(hb:H' b=H b)(hm:H' ml=H ml)(hr:H' rl=some (.lst (rv++[.ref q])))(ht:H' tl=some (.lst (ts.map (fun t=>V.int (t:Nat))++[.int (t:Nat)])))
  (hd:H' nd=some (.dK (putK kvs (Sum.inl (t:Int)) (.int (rs.length:Nat)))))(hq:H' q=some (.tup [.int (i:Nat),.int (lo:Nat),.int (hi:Nat)]))(B':Bk os.length (rs++[some (i,lo,hi)]))(hn:t∉ts)(tb:yP os.length t (fun b=>yes (rs++[some (i,lo,hi)]) rs.length (zbp b))) :
  Parts C H' b os (rs++[some (i,lo,hi)]) F dx ml rl tl nd (rv++[.ref q]) (ts++[t]) (putK kvs (Sum.inl (t:Int)) (.int (rs.length:Nat))) :=
 {hb:=by rw[hb];exact h.hb
  hm:=by rw[hm];exact h.hm
  hr:=hr
  ht:=by rw[ht,zuq];rfl
  hd:=hd
  mr:=h.mr
  mt:=h.mt
  rt:=h.rt
  ord:=h.ord
  bk:=B'
  len:=by rw[zuk,zuk,h.len];rfl
  rm:=fun j x e=>by
   by_cases hj:j<rs.length
   ·rw[zuI hj] at e
    obtain⟨p,a,c⟩:=h.rm j x e
    exact⟨p,by rw[zuI (by rw[h.len];exact hj)];exact a,t' _ _ c⟩
   ·have lt:=(zuf.mp e).1
    rw[zuk,zuJ] at lt
    have ej:j=rs.length:=by omega
    subst ej
    simp at e
    subst e
    exact⟨q,by rw[<-h.len];simp,hq⟩
  tabs:=h.tabs.snoc h.bk tb
  nums:=by
   have z:=h.nums.snoc hn
   rw[h.tabs.len] at z
   exact z
  ft:=h.ft }
def Pq:Sp:=fun vs H Q _=>∃(N p n:Nat) (v:Bool) (f:Nat->Bool),vs=[.int N,.int p,.int (v.toNat:Nat),.int n]/\p<n/\n<=8/\yP n N f/\∀R:Nat,yP n R (fun b=>f (zZ b p v))->Q (.int R) H
def Jw:Sp:=fun vs H Q _=>∃(N n:Nat) (f:Nat->Bool),vs=[.int N,.int n]/\n<=8/\yP n N f/\∀p:Nat,p<=n->(∀i,i<p->Free n f i)->(p<n->∃b,b<2^n/\f (zZ b p false)≠f (zZ b p true))->Q (.int p) H
def vD (C:Addr):Sp:=fun vs H Q _=>∃(b:Addr) (os:List Str) (rs:List Rm) (F:wO) (k:Nat),vs=[.ref b,.int k]/\yc C H b os rs F/\k<rs.length/\Q .non H
def ZV (C:Addr):Sp:=fun vs H Q _=>∃(b:Addr) (os:List Str) (rs:List Rm) (F:wO) (k:Nat),vs=[.ref b,.int k]/\yc C H b os rs F/\k<rs.length/\Q (.int (z8 os.length rs k:Nat)) H
def Xb (C:Addr):Sp:=fun vs H Q _=>∃(b:Addr) (os:List Str) (rs:List Rm) (F:wO) (k:Nat) (x:Rm) (v:Bool),vs=[.ref b,.int k,.int (v.toNat:Nat)]/\yc C H b os rs F/\rs[k]?=some x/\Q (.int (Xw k x v:Nat)) H
def VD (C:Addr)(d:Nat):Sp:=fun vs H Q _=>∃(b:Addr) (os:List Str) (rs:List Rm) (F:wO) (t u:Nat) (f:Nat->Bool),vs=[.ref b,.int t]/\yc C H b os rs F/\rs.length+2^d<=9000000/\u<=os.length/\os.length+1<=u+d/\yP os.length t f/\(∀i,i<u->Free os.length f i) /\
 ∀(k:Nat) (rs':List Rm) (H':Hp),zlW F H H'->xq H H'->yc C H' b os rs' F->uf rs rs'->k<rs'.length->(∀r,yes rs' k r=f (bits r os.length))->rs'.length+1<=rs.length+2^d->(∀j,rs.length<=j->j<rs'.length->u<=z8 os.length rs' j)->Q (.int (k:Nat)) H'
def zgy:Sp:=fun vs H Q _=>∃(N p n:Nat) (f:Nat->Bool),vs=[.int N,.int p,.int n]/\p<n/\n<=8/\yP n N f/\∀b:Bool,(b=false->Free n f p)->(b=true->∃c,c<2^n/\f (zZ c p false)≠f (zZ c p true))->Q (.bl b) H
end Y9
namespace zE
open Y9
def allR:Nat->List (List Bool)
 | 0=>[[]]
 | n+1=>(allR n).flatMap fun r=>[r++[false],r++[true]]
def xV (r:List Bool):Row:=fun i=>r.getD i false
theorem YG:∀(n:Nat) (r:List Bool),r∈allR n->r.length=n
 | 0,r,h=>by
  have:r=[]:=by simpa [allR] using h
  rw[this];rfl
 | n+1,r,h=>by
  obtain⟨x,hx,hr⟩:=List.mem_flatMap.mp h
  have ih:=YG n x hx
  simp at hr
  rcases hr with z | z<;>rw[z,zuk,ih]<;>rfl
theorem Vb {α β:Type}(f:α->List β)(h:∀a,(f a).length=2):∀l:List α,(l.flatMap f).length=2*l.length
 | []=>rfl
 | a::l=>by rw[List.flatMap_cons,zuk,h a,Vb f h l,zuo];omega
theorem Ms:∀n,(allR n).length=2^n
 | 0=>rfl
 | n+1=>by
  show((allR n).flatMap _).length=_
  rw[Vb _ (fun _=>rfl),Ms n,Nat.pow_succ];omega
def tO (rs:List Rm)(k p:Nat)(v:Bool):Nat:=match rs[k]? with
 | some (some (i,lo,hi))=>if i=p then (if v then hi else lo) else k
 | _=>k
def wk (rs:List Rm)(k:Nat)(r:Row):Nat->Nat
 | 0=>k
 | i+1=>tO rs (wk rs k r i) i (r i)
section
variable {n:Nat}{rs:List Rm}(B:Bk n rs)
include B
theorem zai {k p:Nat}{v:Bool}(h:k<=1):tO rs k p v=k:=by
 unfold tO
 have:k=0\/k=1:=by omega
 rcases this with z | z<;>subst z
 ·rw[B.h0]
 ·rw[B.h1]
theorem zcS {m i:Nat}{r:Row}(hm:m<rs.length)(hi:i<n)(hl:i<=z8 n rs m):tO rs m i (r i)<rs.length/\i+1<=z8 n rs (tO rs m i (r i))/\yes rs (tO rs m i (r i)) r=yes rs m r:=by
 by_cases h2:2<=m
 ·obtain⟨j,lo,hi',e,hjn,hlo,hhi,hne,l1,l2⟩:=B.rm m h2 hm
  have lk:=xY B e
  have ys:=Xv B e r
  unfold tO
  rw[e]
  by_cases ej:j=i
  ·subst ej
   show(if j=j then (if r j then hi' else lo) else m)<rs.length/\j+1<=z8 n rs (if j=j then (if r j then hi' else lo) else m)/\yes rs (if j=j then (if r j then hi' else lo) else m) r=yes rs m r
   rw[if_pos rfl]
   cases hr:r j
   ·rw[hr] at ys
    exact⟨by show lo<rs.length;omega,l1,ys.symm⟩
   ·rw[hr] at ys
    exact⟨by show hi'<rs.length;omega,l2,ys.symm⟩
  ·show(if j=i then (if r i then hi' else lo) else m)<rs.length/\i+1<=z8 n rs (if j=i then (if r i then hi' else lo) else m)/\yes rs (if j=i then (if r i then hi' else lo) else m) r=yes rs m r
   rw[if_neg ej]
   exact⟨hm,by omega,rfl⟩
 ·rw[zai B (by omega)]
  refine⟨hm,?_,rfl⟩
  have:m=0\/m=1:=by omega
  rcases this with z | z<;>subst z
  ·rw[Mp B];exact hi
  ·rw[Yg B];exact hi
theorem zcT {k:Nat}(hk:k<rs.length)(r:Row):∀i,i<=n->wk rs k r i<rs.length/\i<=z8 n rs (wk rs k r i)/\yes rs (wk rs k r i) r=yes rs k r
 | 0,_=>⟨hk,zuy _,rfl⟩
 | i+1,hi=>by
  obtain⟨a,b,c⟩:=zcT hk r i (by omega)
  obtain⟨a',b',c'⟩:=zcS B (r:=r) a hi b
  exact⟨a',b',c'.trans c⟩
theorem ziU {k:Nat}(hk:k<rs.length)(r:Row):(wk rs k r n != 0)=yes rs k r:=by
 obtain⟨a,b,c⟩:=zcT B hk r n (zus _)
 rw[<-c]
 by_cases h2:2<=wk rs k r n
 ·exfalso
  obtain⟨j,lo,hi,e,hjn,_⟩:=B.rm _ h2 a
  rw[xY B e] at b
  omega
 ·have:wk rs k r n=0\/wk rs k r n=1:=by omega
  rcases this with z | z<;>rw[z]
  ·rfl
  ·rw[Ye B];rfl
end
theorem zdZ {rs:List Rm}{k:Nat}{r r':Row}:∀i,(∀j,j<i->r j=r' j)->wk rs k r i=wk rs k r' i
 | 0,_=>rfl
 | i+1,h=>by
  show tO rs (wk rs k r i) i (r i)=tO rs (wk rs k r' i) i (r' i)
  rw[zdZ i fun j hj=>h j (by omega),h i (by omega)]
theorem ziV {r:List Bool}{v:Bool}{j:Nat}(h:j<r.length):xV (r++[v]) j=xV r j:=by
 unfold xV
 rw[zup,zup,zuI h]
theorem zhk {r:List Bool}{v:Bool}:xV (r++[v]) r.length=v:=by
 unfold xV
 rw[zup]
 simp
abbrev Ent:=List Bool×Nat
def ZL (rs:List Rm)(i:Nat)(e:Ent):List Ent:=[(e.1++[false],tO rs e.2 i false),(e.1++[true],tO rs e.2 i true)]
def ne0 (e:Ent):Bool:=e.2 != 0
def Lv (rs:List Rm)(k:Nat):Nat->List Ent
 | 0=>[([],k)]
 | i+1=>((Lv rs k i).flatMap (ZL rs i)).filter ne0
theorem zgz (rs:List Rm)(k:Nat):∀i,(Lv rs k i).length<=2^i
 | 0=>zus _
 | i+1=>by
  have h1:=zuK ne0 ((Lv rs k i).flatMap (ZL rs i))
  rw[Vb (ZL rs i) (fun _=>rfl)] at h1
  have h2:=zgz rs k i
  rw[Nat.pow_succ]
  show(List.filter ne0 _).length<=_
  omega
def Av (rs:List Rm)(k i:Nat):List Ent:=(allR i).map fun r=>(r,wk rs k (xV r) i)
theorem Mt {n:Nat}{rs:List Rm}(B:Bk n rs)(i:Nat):∀l:List Ent,(l.flatMap (ZL rs i)).filter ne0=((l.filter ne0).flatMap (ZL rs i)).filter ne0
 | []=>rfl
 | e::l=>by
  rw[List.flatMap_cons,zuP,Mt B i l]
  cases h:ne0 e
  ·rw[List.filter_cons_of_neg (by rw[h];exact zug)]
   have e0:e.2=0:=by
    unfold ne0 at h
    simpa using h
   have:(ZL rs i e).filter ne0=[]:=by
    unfold ZL
    rw[e0,zai B (zuy _),zai B (zuy _)]
    rfl
   rw[this,List.nil_append]
  ·rw[List.filter_cons_of_pos h,List.flatMap_cons,zuP]
theorem zke (rs:List Rm)(k i:Nat):Av rs k (i+1)=(Av rs k i).flatMap (ZL rs i):=by
 unfold Av
 show((allR i).flatMap fun r=>[r++[false],r++[true]]).map _=_
 rw[List.map_flatMap,List.flatMap_map]
 rw[List.flatMap_def,List.flatMap_def]
 congr 1
 refine List.map_congr_left fun r hr=>?_
 have hl:=YG i r hr
 have key:∀v,wk rs k (xV (r++[v])) (i+1)=tO rs (wk rs k (xV r) i) i v:=fun v=>by
  show tO rs (wk rs k (xV (r++[v])) i) i (xV (r++[v]) i)=_
  rw[zdZ i fun j hj=>ziV (v:=v) (by omega)]
  conv=>lhs;rw[<-hl,zhk]
  rw[hl]
 show [(r++[false],wk rs k (xV (r++[false])) (i+1)),(r++[true],wk rs k (xV (r++[true])) (i+1))]=ZL rs i (r,wk rs k (xV r) i)
 rw[key,key]
 rfl
theorem zgA {n:Nat}{rs:List Rm}(B:Bk n rs)(k:Nat):∀i,(Lv rs k i).filter ne0=(Av rs k i).filter ne0
 | 0=>rfl
 | i+1=>by
  rw[zke,Mt B i (Av rs k i),<-zgA B k i,<-Mt B i]
  show List.filter ne0 (List.filter ne0 _)=_
  rw[List.filter_filter]
  congr 1
  funext e
  exact Bool.and_self _
theorem Xx (f:List Bool->Nat):∀l:List (List Bool),((l.map fun r=>(r,f r)).filter ne0).map (·.1)=l.filter fun r=>f r != 0
 | []=>rfl
 | r::l=>by
  rw[zuA]
  have e:ne0 (r,f r)=(f r != 0):=rfl
  cases h:(f r != 0)
  ·rw[List.filter_cons_of_neg (by rw[e,h];exact zug),List.filter_cons_of_neg (by rw[h];exact zug)]
   exact Xx f l
  ·rw[List.filter_cons_of_pos (by rw[e,h]),List.filter_cons_of_pos (p:=fun r=>f r != 0) h,zuA,Xx f l]
def wJ (n:Nat)(rs:List Rm)(k:Nat):List (List Bool):=(allR n).filter fun r=>yes rs k (xV r)
theorem zkf {n:Nat}{rs:List Rm}(B:Bk n rs){k:Nat}(hk:k<rs.length)(hn:0<n):(Lv rs k n).map (·.1)=wJ n rs k:=by
 have e1:Lv rs k n=(Lv rs k n).filter ne0:=by
  obtain⟨m,rfl⟩:∃m,n=m+1:=⟨n-1,by omega⟩
  show List.filter ne0 _=List.filter ne0 (List.filter ne0 _)
  rw[List.filter_filter]
  congr 1
  funext e
  exact(Bool.and_self _).symm
 rw[e1,zgA B,Av,Xx]
 unfold wJ
 refine List.filter_congr fun r _=>?_
 exact ziU B hk _
theorem zhl (n:Nat)(rs:List Rm)(k:Nat):(wJ n rs k).length<=2^n:=by
 rw[<-Ms]
 exact zuK _ _
theorem zaj {n:Nat}{rs:List Rm}{k:Nat}{r:List Bool}(h:r∈wJ n rs k):r.length=n:=YG n r (List.mem_filter.mp h).1
end zE
namespace L2
open PySem PySem.Spec PyProof.Rows
section
variable {X:Cx}{sc ZK:Scope}{xs:List Str}{js:List Nat}{tg:Expr}{g:TG}{elt iter:Expr}{px pos:Pos}{ifs:List Expr}{wi:TI}{tt:TT}{te:TE}
theorem zl0 (Vv:X.env.scope=ZK)(L:zgj ZK sc xs (js.map fun j=>X.N.getD j ""))(hc:X.calm=true)(hi:PI X tg iter wi)(hg:∀(cl:List (Str×Addr)) (C:Addr) (s₂:Shared) (H₂:Hp) (fp:List Addr),PG (X.blk sc cl C (Q6 X xs js) s₂ H₂ fp) tg g)(hjs:∀j∈js,j<X.N.length)
  (ht:∀(cl:List (Str×Addr)) (C:Addr) (s₂:Shared) (H₂:Hp) (fp:List Addr) (pins:List (Addr×Obj)) (s':Shared) (σ':St) (H':Hp) (Q:Bool->Hp->Prop),Inv (X.blk sc cl C (Q6 X xs js) s₂ H₂ fp) pins σ' H' s'->tt σ' H' Q ->
   wpAny (model X.prog X.w) X.A (Y8 ifs (compEnvC sc cl C X.env)) (TP (X.blk sc cl C (Q6 X xs js) s₂ H₂ fp) pins σ' Q) (fun _ _=>False) s')
  (he:∀(cl:List (Str×Addr)) (C:Addr) (s₂:Shared) (H₂:Hp) (fp:List Addr),PE (X.blk sc cl C (Q6 X xs js) s₂ H₂ fp) elt te)
  (hs:∀x,foldedSetIterable iter X.env x=pure x:=by intro _;rfl) :
  PE X (.ListComp elt [⟨tg,iter,ifs,0⟩] sc pos) (zm6 wi xs js g tt te):=by
 intro pins s σ H Q I h
 rw[eval_ListComp]
 refine zdD (use:=none) (Fin:=fun ys H=>∀p,H p=none->Q (.ref p) (upd H p (.lst ys))) Vv L (rd:=Calm) (fun _ _ _ _ _ _ _=>hc) hi hg hjs ht he hs I h fun D C s5 H5 ys its k m5 J oD oC hDC p1 vs z hn fin=>?_
 refine⟨m5,hn,fun h' hsb=>?_⟩
 have J2:Inv X pins σ H5 { s5 with heap:=h',toks:=s5.toks }:=J.turned (it:=C) (fun b o hb e=>hsb.extBut b o hb e) oC.free oC.loc (.inr oC.new) oC.cel oC.pin
 have p1':h'.get? D=some (v7 its k):=hsb.extBut _ _ hDC p1
 have J3:Inv X pins σ (upd H5 D (.lst ys)) { s5 with heap:=h',toks:=s5.toks }:=J2.track oD.free oD.loc oD.new oD.cel oD.pin ⟨z,its,k,vs,p1'⟩
 exact⟨.ref D,_,J3,rfl,fin D oD.free⟩
end
theorem Inv.zkg {X:Cx}{pins:List (Addr×Obj)}{σ:St}{H:Hp}{s:Shared}{h':Heap}{t':Nat}{fp:List Addr}(I:Inv X pins σ H s)(k:∀b o,b∉fp->s.heap.get? b=some o->h'.get? b=some o)(hf:∀b∈fp,zbi X pins H b) :
  Inv X pins σ H { s with heap:=h',toks:=t' }:=by
 have nit:∀b u,H b=some u->b∉fp:=fun b u e z=>by rw[(hf b z).1] at e;cases e
 refine I.step (g':=s.gens) (d':=s.drawn) (ch:=fp) (fun b hb=>⟨(hf b hb).2.2.2.1,(hf b hb).2.1,(hf b hb).2.2.2.2.1,(hf b hb).2.2.2.2.2⟩) (fun b o _ _ hc e _=>k b o hc e) (fun b o _ _ hc e _=>⟨o.slots,k b o hc e⟩) (fun _ _ _ _ n=>n)
  (fun b o hc e=>⟨o,k b o hc e⟩) (fun _ _ e=>e) (fun _ _ _ e=>e) (fun b ps e=>⟨#[],by rw[e];simp⟩) (fun m hm=>?_) (fun b u e=>?_) I.bare
 ·obtain⟨o,es,ep,ho,r⟩:=hm
  exact⟨o,es,ep,k _ o (fun z=>(hf _ z).2.1 rfl) ho,r⟩
 ·refine(I.hok b u e).stay (fun c v hc q=>k c v ?_ q) (fun _ q=>q) fun _ _ q=>q
  rcases hc with z | z
  ·rw[z];exact nit b u e
  ·exact nit c _ z
def Itz (K:Frag)(a b:Addr):It :=
 {go:=fun i H=>∃xs ys x y,zT K H a xs/\zT K H b ys/\xs[i]?=some x/\ys[i]?=some y
  Jb:=fun i H v H'=>∃q x y,(∀xs,zT K H a xs->xs[i]?=some x)/\(∀ys,zT K H b ys->ys[i]?=some y)/\v=.ref q/\H q=none/\H'=upd H q (.tup [x,y])
  stop:=fun i H=>∃xs ys,zT K H a xs/\zT K H b ys/\(xs.length<=i\/ys.length<=i) }
theorem ziW {P:Program}{w:World}{K:Frag}{els:List Expr}{x1}{pt:Pos}(a b z ti to i1 i2:Addr)(D:ZipApart z ti to i1 i2 a b):Turn P w K (.Tuple els x1 pt) (Itz K a b) [z,ti,to,i1,i2] z
  (fun i h=>IsZip h z ti to .none/\IsPair h ti (.ref i1) (.ref i2)/\(∃u v,IsPair h to u v)/\h.IsListIter i1 a i/\h.IsListIter i2 b i) where
 mem:=by simp
 obj:=fun i h st c hc=>by
  obtain⟨q1,q2,⟨u,v,q3⟩,⟨o4,q4,c4,d4⟩,⟨o5,q5,c5,d5⟩⟩:=st
  simp only[List.mem_cons,zuC,or_false] at hc
  rcases hc with e | e | e | e | e<;>subst e
  ·exact⟨_,q1,fun v hv=>by cases hv⟩
  ·exact⟨_,q2,fun v hv=>by cases hv⟩
  ·exact⟨_,q3,fun v hv=>by cases hv⟩
  ·exact⟨_,q4,fun v hv=>by rw[d4] at hv;cases hv⟩
  ·exact⟨_,q5,fun v hv=>by rw[d5] at hv;cases hv⟩
 keep:=fun i h h' st k=>by
  obtain⟨q1,q2,⟨u,v,q3⟩,q4,q5⟩:=st
  exact⟨k z (by simp) _ q1,k ti (by simp) _ q2,⟨u,v,k to (by simp) _ q3⟩,q4.at fun o e=>k i1 (by simp) o e,q5.at fun o e=>k i2 (by simp) o e⟩
 item:=by
  intro X hP hw hK hc i pins s σ H E I hf st hg
  subst hP hw hK
  obtain⟨xs,ys,x,y,hq1,hq2,hx,hy⟩:=hg
  obtain⟨q1,q2,⟨u0,v0,q3⟩,q4,q5⟩:=st
  obtain⟨zfg,rv1,pl1,hz1⟩:=I.list hq1
  obtain⟨its2,rv2,pl2,hz2⟩:=I.list hq2
  obtain⟨u,hu,ru⟩:=rv1.get hx
  obtain⟨v,hv,rv⟩:=rv2.get hy
  refine wpAny_pyNext_zip_item D q1 q2 q3 q4 q5 pl1.isList pl2.isList (x:=u) (y:=v) (by simpa using hu) (by simpa using hv) fun h1 out pto it1 it2 tup sz k1=>?_
  refine⟨.ref s.heap.objs.size,rfl,wpAny_letOwnedTupleGo_zip out fun h2 he2 sb=>?_⟩
  have ltz:=zuj q1
  have ltf:∀c∈[z,ti,to,i1,i2],c<s.heap.objs.size:=fun c hc=>by
   simp only[List.mem_cons,zuC,or_false] at hc
   rcases hc with e | e | e | e | e<;>subst e
   ·exact ltz
   ·exact zuj q2
   ·exact zuj q3
   ·obtain⟨o,e,_⟩:=q4;exact zuj e
   ·obtain⟨o,e,_⟩:=q5;exact zuj e
  have k2:∀c o,c∉[z,ti,to,i1,i2]->s.heap.get? c=some o->h2.get? c=some o:=fun c o hc q=>by
   simp only[List.mem_cons,zuC,or_false,not_or] at hc
   obtain⟨c1,c2,c3,c4,c5⟩:=hc
   exact(sb.2 c c1).trans (k1 c o c1 c3 c4 c5 q)
  have it1':h2.IsListIter i1 a (i+1):=it1.at fun o e=>(sb.2 i1 D.i1z).trans e
  have it2':h2.IsListIter i2 b (i+1):=it2.at fun o e=>(sb.2 i2 D.i2z).trans e
  have hti:IsPair h2 ti (.ref i1) (.ref i2):=(sb.2 ti D.TIz).trans (k1 ti _ D.TIz D.TITO D.TIi1 D.TIi2 q2)
  have hto:IsPair h2 to u v:=(sb.2 to D.TOz).trans pto
  have J1:Inv X pins σ H { s with heap:=h2,toks:=s.toks }:=I.zgm (fp:=[z,ti,to,i1,i2]) k2 (fun c hc=>by
   simp only[List.mem_cons,zuC,or_false] at hc
   rcases hc with e | e | e | e | e<;>subst e
   ·exact⟨_,he2⟩
   ·exact⟨_,hti⟩
   ·exact⟨_,hto⟩
   ·obtain⟨o,e,_⟩:=it1';exact⟨o,e⟩
   ·obtain⟨o,e,_⟩:=it2';exact⟨o,e⟩) hf
  have zlM:h2.get? s.heap.objs.size=some { cls:=.type "tuple", data:=.seq #[u,v] }:=(sb.2 _ (Nat.ne_of_gt ltz)).trans tup
  have ltc:∀y c,X.env.cells.lookup y=some c->c≠s.heap.objs.size:=fun y c q=>by
   obtain⟨v,o,z,_⟩:=I.cell y c q
   exact zur (zuj z)
  have ltp:∀p∈X.pn++pins,p.1≠s.heap.objs.size:=fun p hp=>zur (zuj (I.pin p hp).1)
  have J2:=J1.track (a:=s.heap.objs.size) (o:=.tup [x,y]) I.fresh (Ne.symm (zur I.lt)) I.sz ltc ltp ⟨by show 2<=sizeLine;decide,[u,v],.cons ru (.cons rv .nil),⟨_,zlM,rfl,_,rfl⟩⟩
  refine⟨.ref s.heap.objs.size,_,J2,rfl,⟨_,x,y,fun zs hzs=>by rw[I.Xr hzs hq1];exact hx,fun zs hzs=>by rw[I.Xr hzs hq2];exact hy,rfl,I.fresh,rfl⟩,⟨he2,hti,⟨u,v,hto⟩,it1',it2'⟩,fun c hc=>?_⟩
  rw[zy (zur (ltf c hc))]
  exact(hf c hc).1
 done:=by
  intro X hP hw hK hc i pins s σ H E I hf st hg
  subst hP hw hK
  obtain⟨xs,ys,hq1,hq2,hx⟩:=hg
  obtain⟨q1,q2,⟨u0,v0,q3⟩,q4,q5⟩:=st
  obtain⟨zfg,rv1,pl1,hz1⟩:=I.list hq1
  obtain⟨its2,rv2,pl2,hz2⟩:=I.list hq2
  have l1:=rv1.length
  have l2:=rv2.length
  refine wpAny_pyNext_zip_end (I.ok.hd hc) D q1 q2 q3 q4 q5 pl1.isList pl2.isList (by
   rcases hx with e | e
   ·left;simp;omega
   ·right;simp;omega) fun h' k=>⟨rfl,?_⟩
  refine I.zkg (t':=s.toks) (fp:=[z,to,i1,i2]) (fun c o hc e=>?_) fun c hc=>hf c (by simp only[List.mem_cons,zuC,or_false] at hc ⊢;rcases hc with e | e | e | e<;>simp[e])
  simp only[List.mem_cons,zuC,or_false,not_or] at hc
  exact k c o hc.1 hc.2.1 hc.2.2.1 hc.2.2.2 e
 self:=fun _ _ _ _ _ st h=>wpAny_pyIter_zip st.1 h
section
variable {X:Cx}
def zpk (K:Frag)(ta:TA):TI:=fun σ H R=>ta σ H fun vs H1=>∃a b xs ys,vs=[.ref a,.ref b]/\zT K H1 a xs/\zT K H1 b ys/\R (Itz K a b) H1
theorem zl1 {l m:Expr}{ta:TA}{p pos:Pos}{els:List Expr}{x1}{pt:Pos}(hg:Gl X "zip")(hm:X.mg "zip"=none)(ha:PA X [l,m] ta)(hs:starEach [l,m] X.env=[(false,eval l X.env),(false,eval m X.env)]:=by rfl)(hs2:starEach [m] X.env=[(false,eval m X.env)]:=by rfl) :
  PI X (.Tuple els x1 pt) (.Call (.Name "zip" p) [l,m] [] pos) (zpk X.K ta):=by
 intro pins s σ H R I h
 refine Call_ (Vr I hg hm boot_zip (PyProof.Rows.callWith_type1 (wM (ha pos pins s σ H _ I h) fun us s1 ⟨vs,H1,I1,r1,q1⟩=>?_) (by rw[hs,hs2]) (by rw[hs2];rfl)))
 obtain⟨a,b,xs,ys,e,hq1,hq2,q⟩:=q1
 subst e
 obtain⟨u,v,rfl,ru,rv⟩:=vals2 r1
 cases ru
 cases rv
 obtain⟨zfg,rv1,pl1,hz1⟩:=I1.list hq1
 obtain⟨its2,rv2,pl2,hz2⟩:=I1.list hq2
 obtain⟨o1,e1,_⟩:=id pl1.isList
 obtain⟨o2,e2,_⟩:=id pl2.isList
 refine call_zip_2 pl1.isList pl2.isList fun h' hz hti hto it1 it2 hsz hk=>?_
 have J:Inv X pins σ H1 { s1 with heap:=h',toks:=s1.toks }:=I1.kept hk
 refine wpAny_pyIter_zip hz ?_
 refine⟨s1.heap.objs.size+4,[s1.heap.objs.size+4,s1.heap.objs.size+2,s1.heap.objs.size+3,s1.heap.objs.size,s1.heap.objs.size+1],_,_,H1,rfl,J,ziW a b _ _ _ _ _ (zipApart_new (zuj e1) (zuj e2)),⟨hz,hti,⟨_,_,hto⟩,it1,it2⟩,fun c hc=>?_,q⟩
 have gc:s1.heap.objs.size<=c:=by
  simp only[List.mem_cons,zuC,or_false] at hc
  rcases hc with z | z | z | z | z<;>rw[z]<;>omega
 exact I1.zh9 gc (I1.hok.fresh gc)
end
theorem zl2 {K:Frag}{a b:Addr}{xs ys:List V}{σ:St}{js:List Nat}{te:TE}{H:Hp}{Qf:Addr->Hp->List V->Prop}{x y:Str}(R:V->V->V->Prop)(hq1:zT K H a xs)(hq2:zT K H b ys)(hl:xs.length=ys.length)(hz:xs.length<=sizeLine)
  (hs:∀(i:Nat) u v H',xs[i]?=some u->ys[i]?=some v->Same H H'->te (lcT σ js [some u,some v]) H' fun z H3=>R u v z/\Same H H3)
  (me:∀ σ H Q Q',(∀v H1,Q v H1->Q' v H1)->te σ H Q->te σ H Q')
  (hd:∀zs H' p,zs.length=xs.length->(∀(i:Nat) u v z,xs[i]?=some u->ys[i]?=some v->zs[i]?=some z->R u v z)->Same H H'->H' p=none->Qf p H' zs) :
  ∃W:Nat->Nat->List V->Hp->Prop,(∃m,W 0 m [] H)/\∀i m zs H,W i m zs H ->
   ((Itz K a b).stop i H/\∀p,H p=none->Qf p H zs) \/
   ((Itz K a b).go i H/\zs.length<sizeLine/\∀v H',(Itz K a b).Jb i H v H'->∀o0:List (Option V),o0.length=[x,y].length->zjB K 2 (JL (Uu 0) (JL (Uu 1) zjA)) v (lcT σ js o0) H' fun σ2 H1=>∃o1,σ2=lcT σ js o1/\o1.length=[x,y].length/\Qd σ2 H1 fun b H2 =>
    if b=true then te σ2 H2 fun v H3=>∃m',m'<m/\W (i+1) m' (zs++[v]) H3 else ∃m',m'<m/\W (i+1) m' zs H2):=by
 refine⟨fun i m zs H'=>m=xs.length-i/\i<=xs.length/\zs.length=i/\Same H H'/\∀(j:Nat) u v z,xs[j]?=some u->ys[j]?=some v->zs[j]?=some z->R u v z,⟨_,rfl,zuy _,rfl,Same.refl _,fun j u v z _ _ e=>by simp at e⟩,?_⟩
 rintro i m zs H1 ⟨rfl,hi,hzl,g,r⟩
 by_cases hlt:i<xs.length
 ·have ex:=zud hlt
  have ey:=zud (l:=ys) (i:=i) (by omega)
  refine .inr ⟨⟨xs,ys,_,_,g.seq hq1,g.seq hq2,ex,ey⟩,by omega,fun w H' y o0 l0=>?_⟩
  obtain⟨q,u,v,hu,hv,rfl,hn,rfl⟩:=y
  have eu:=hu xs (g.seq hq1)
  have ev:=hv ys (g.seq hq2)
  have eσ:((lcT σ js o0).set 0 (some u)).set 1 (some v)=lcT σ js [some u,some v]:=by
   match o0,l0 with
   | [a0,a1],_=>rfl
  refine⟨q,[u,v],rfl,wK.of zf,rfl,u,[v],rfl,v,[],rfl,rfl,[some u,some v],eσ,rfl,?_⟩
  ·show te (((lcT σ js o0).set 0 (some u)).set 1 (some v)) _ _
   rw[eσ]
   refine me _ _ _ _ (fun z H3 h3=>⟨_,by omega,rfl,hlt,by rw[zuk,hzl];rfl,h3.2,fun j u' v' z' e1 e2 e3=>?_⟩) (hs i u v _ eu ev (g.trans (Same.new hn _)))
   by_cases hj:j<zs.length
   ·rw[zuI hj] at e3
    exact r j u' v' z' e1 e2 e3
   ·have lt:=(zuf.mp e3).1
    rw[zuk,zuJ] at lt
    have ej:j=zs.length:=by omega
    subst ej
    simp at e3
    subst e3
    rw[hzl] at e1 e2
    rw[eu] at e1
    rw[ev] at e2
    cases e1
    cases e2
    exact h3.1
 ·have e:i=xs.length:=by omega
  subst e
  exact .inl ⟨⟨xs,ys,g.seq hq1,g.seq hq2,.inl (zus _)⟩,fun p hp=>hd zs H1 p hzl r g hp⟩
section
variable {X:Cx}
def znu (K:Frag):R2:=fun x y H Q=>∃p q xs ys,x=.ref p/\y=.ref q/\zT K H p xs/\zT K H q ys/\xs.length+ys.length<=sizeLine/\∀l,H l=none->Q (.ref l) (upd H l (.lst (xs++ys)))
theorem zgC:U0 X (binaryOp .Add) (znu X.K):=by
 intro pins s σ H x y v u Q I rx ry h
 obtain⟨p,q,xs,ys,rfl,rfl,hp,hq,hz,h⟩:=h
 cases rx
 cases ry
 obtain⟨zfg,rv1,pl1,hz1⟩:=I.list hp
 obtain⟨its2,rv2,pl2,hz2⟩:=I.list hq
 obtain⟨⟨cls,dd,data,sl⟩,ho,hc,n,hd⟩:=id pl1.isList
 obtain⟨⟨cls2,dd2,data2,sl2⟩,ho2,hc2,n2,hd2⟩:=id pl2.isList
 simp only at hc hd hc2 hd2
 subst hc hd hc2 hd2
 have l1:=rv1.length
 have l2:=rv2.length
 have e:zfg.toArray++its2.toArray=(zfg++its2).toArray:=by simp
 refine concat_meets ⟨_,ho,rfl⟩ ⟨_,ho2,rfl⟩ noFill_list_add seq_list_add PySem.F.slot_list_add PySem.F.entry_list_add (PySem.F.args_list_add_2 _ _) (list_addW p q zfg.toArray its2.toArray n n2 dd dd2 sl sl2 (by simp;omega)) ⟨ho,ho2,?_⟩
 rw[e]
 refine⟨.ref s.heap.objs.size,_,I.laid (t':=s.toks) (o:=.lst (xs++ys)) (fun b o e=>zui _ e) (zus _) ?_,rfl,h _ (I.hok.fresh (zus _))⟩
 exact⟨by rw[zuk];exact hz,zfg++its2,0,rv1.append rv2,zuw _ rfl⟩
end
end L2
namespace L2
open PySem
section
variable {K:Frag}{a:Addr}{xs:List V}{σ:St}{js:List Nat}{te:TE}{H:Hp}{Qf:Addr->Hp->List V->Prop}
theorem zkh (R:Nat->V->Prop)(hq:zT K H a xs)(hz:xs.length<=sizeLine)
  (hs:∀(i:Nat) x H',xs[i]?=some x->Same H H'->te (YM σ js (some x)) H' fun v H3=>R i v/\Same H H3)
  (me:∀ σ H Q Q',(∀v H1,Q v H1->Q' v H1)->te σ H Q->te σ H Q')
  (hd:∀ys H' p,ys.length=xs.length->(∀(i:Nat) y,ys[i]?=some y->R i y)->Same H H'->H' p=none->Qf p H' ys) :
  ∃W:Nat->Nat->List V->Hp->Prop,(∃m,W 0 m [] H)/\∀i m ys H,W i m ys H ->
   ((Itl K a).stop i H/\∀p,H p=none->Qf p H ys) \/
   ((Itl K a).go i H/\ys.length<sizeLine/\∀x H',(Itl K a).Jb i H x H'->Qd (YM σ js (some x)) H' fun b H2 =>
    if b=true then te (YM σ js (some x)) H2 fun v H3=>∃m',m'<m/\W (i+1) m' (ys++[v]) H3 else ∃m',m'<m/\W (i+1) m' ys H2):=by
 refine Q7 (fun i ys H'=>Same H H'/\ys.length=i/\∀(j:Nat) y,ys[j]?=some y->R j y) ⟨Same.refl _,rfl,fun j y e=>by simp at e⟩ hz ?_ ?_ (fun _ _ _ _ h q=>h _ _ q) me ?_
 ·rintro i ys H' hi ⟨g,e,r⟩
  exact⟨g.seq hq,by omega⟩
 ·rintro i x ys H' hx ⟨g,e,r⟩
  show te (YM σ js (some x)) H' fun v H3=>Same H H3/\(ys++[v]).length=i+1/\∀(j:Nat) y,(ys++[v])[j]?=some y->R j y
  refine me _ _ _ _ (fun v H3 h3=>⟨h3.2,by rw[zuk,e];rfl,fun j y ey=>?_⟩) (hs i x H' hx g)
  by_cases hj:j<ys.length
  ·rw[zuI hj] at ey
   exact r j y ey
  ·have lt:=(zuf.mp ey).1
   rw[zuk,zuJ] at lt
   have ej:j=ys.length:=by omega
   subst ej
   simp at ey
   subst ey
   rw[e]
   exact h3.1
 ·rintro ys H' p ⟨g,e,r⟩ hp
  exact hd ys H' p e r g hp
end
end L2
namespace Y9
open PySem L2 zE
theorem zk1 {n:Nat}{rs:List Rm}(B:Bk n rs){k:Nat}(hk:k<rs.length):∀i,i<=n->∀e∈Lv rs k i,e.2<rs.length/\i<=z8 n rs e.2/\e.1.length=i
 | 0,_,e,he=>by
  have:e=([],k):=by simpa [Lv] using he
  rw[this]
  exact⟨hk,zuy _,rfl⟩
 | i+1,hi,e,he=>by
  obtain⟨x,hx,hs⟩:=List.mem_flatMap.mp (List.mem_filter.mp he).1
  obtain⟨a,b,c⟩:=zk1 B hk i (by omega) x hx
  have f:=zcS B (r:=fun _=>false) a hi b
  have t:=zcS B (r:=fun _=>true) a hi b
  simp only[ZL,List.mem_cons,zuC,or_false] at hs
  rcases hs with z | z<;>rw[z]
  ·exact⟨f.1,f.2.1,by rw[zuk,c];rfl⟩
  ·exact⟨t.1,t.2.1,by rw[zuk,c];rfl⟩
def zgD (C:Addr):Sp:=fun vs H Q _=>∃(b:Addr) (os:List Str) (rs:List Rm) (F:wO) (k p:Nat) (v:Bool),vs=[.ref b,.int k,.int p,.int (v.toNat:Nat)]/\yc C H b os rs F/\k<rs.length/\p<os.length/\Q (.int (tO rs k p v:Nat)) H
def zfh (H0 H:Hp)(p:Addr)(e:Ent):Prop:=∃q,H0 q=none/\H p=some (.tup [.ref q,.int (e.2:Nat)])/\H q=some (.lst (uP e.1))
theorem zfh.mono {H0 H H':Hp}{p:Addr}{e:Ent}(h:zfh H0 H p e)(g:Same H H'):zfh H0 H' p e:=let ⟨q,a,b,c⟩:=h;⟨q,a,g _ _ b,g _ _ c⟩
theorem zhm {H0 H H':Hp}{ps:List Addr}{es:List Ent}(h:Paired (zfh H0 H) ps es)(g:Same H H'):Paired (zfh H0 H') ps es:=xX (fun _ _ r=>r.mono g) h
def zl4 (H0 H:Hp)(p:Addr)(r:List Bool):Prop:=H0 p=none/\H p=some (.lst (uP r))
def Vc (C:Addr):Sp:=fun vs H Q _=>∃(b:Addr) (os:List Str) (rs:List Rm) (F:wO) (k:Nat),vs=[.ref b,.int k]/\yc C H b os rs F/\k<rs.length /\
 ∀(l:Addr) (H':Hp) (ps:List Addr),Same H H'->H l=none->H' l=some (.lst (ps.map V.ref))->Paired (zl4 H H') ps (wJ os.length rs k)->Q (.ref l) H'
def zb8 (C:Addr):Sp:=fun vs H Q _=>∃(b:Addr) (os:List Str) (rs:List Rm) (F:wO) (k:Nat),vs=[.ref b,.int k]/\yc C H b os rs F/\k<rs.length/\∀H',Same H H'->Q (.int ((wJ os.length rs k).length:Nat)) H'
def zbr (x:Addr)(H0 H:Hp)(p:Addr)(e:Ent):Prop:=∃q,H0 q=none/\q≠x/\H p=some (.tup [.ref q,.int (e.2:Nat)])/\H q=some (.lst (uP e.1))
theorem zbr.mono {x:Addr}{H0 H H':Hp}{p:Addr}{e:Ent}(h:zbr x H0 H p e)(g:Same H H'):zbr x H0 H' p e:=let ⟨q,a,n,b,c⟩:=h;⟨q,a,n,g _ _ b,g _ _ c⟩
theorem zak {x:Addr}{H0 H H':Hp}{ps:List Addr}{es:List Ent}(h:Paired (zbr x H0 H) ps es)(g:Same H H'):Paired (zbr x H0 H') ps es:=xX (fun _ _ r=>r.mono g) h
theorem zb9 {x:Addr}{H0 H:Hp}{ps:List Addr}{es:List Ent}{zs:List V}{o:HO}(hx:H x=some (.lst zs))(h:Paired (zbr x H0 H) ps es):Paired (zbr x H0 (upd H x o)) ps es:=xX (fun p e ⟨q,a,n,b,c⟩=>⟨q,a,n,by rw[zy (Yx b hx (by intro z;cases z))];exact b,by rw[zy n];exact c⟩) h
end Y9
namespace L2
open PySem
theorem zki {X:Cx}{x y:Str}{px py pt:Pos}{x1:Nat}(hc:X.calm=true)(hN:X.N.Nodup)(h0:X.N[0]?=some x)(h1:X.N[1]?=some y)(hx:X.env.scope.names.lookup x=some .local)(hy:X.env.scope.names.lookup y=some .local):PG X (.Tuple [.Name x px,.Name y py] x1 pt) (zjB X.K 2 (JL (Uu 0) (JL (Uu 1) zjA))) :=
 JM hc (uR (yR hN h0 (.inl hx) (.inr hx)) (uR (yR hN h1 (.inl hy) (.inr hy)) QM))
end L2
namespace L2
open PySem PySem.Spec PyProof.Rows
structure zk2 (ZK sc:Scope)(x y:Str)(fv:List Str):Prop where
 g:zgj ZK sc [x,y] fv
 hx:sc.names.lookup x=some .local
 hy:sc.names.lookup y=some .local
 nd:([x,y]++fv).Nodup
theorem zl5 {X:Cx}{sc ZK:Scope}{x y:Str}{js:List Nat}{elt iter:Expr}{px py pt pos:Pos}{x1:Nat}{wi:TI}{te:TE}(Vv:X.env.scope=ZK)(L:zk2 ZK sc x y (js.map fun j=>X.N.getD j ""))(hc:X.calm=true)(hi:PI X (.Tuple [.Name x px,.Name y py] x1 pt) iter wi)(hjs:∀j∈js,j<X.N.length)
  (he:∀(cl:List (Str×Addr)) (C:Addr) (s₂:Shared) (H₂:Hp) (fp:List Addr),PE (X.blk sc cl C (Q6 X [x,y] js) s₂ H₂ fp) elt te)
  (hs:∀x,foldedSetIterable iter X.env x=pure x:=by intro _;rfl) :
  PE X (.ListComp elt [⟨.Tuple [.Name x px,.Name y py] x1 pt,iter,[],0⟩] sc pos) (zm6 wi [x,y] js (zjB X.K 2 (JL (Uu 0) (JL (Uu 1) zjA))) Qd te) :=
 zl0 Vv L.g hc hi (fun cl C s₂ H₂ fp=>zki (X:=X.blk sc cl C (Q6 X [x,y] js) s₂ H₂ fp) hc L.nd rfl rfl (lookup_relabel_local L.hx) (lookup_relabel_local L.hy)) hjs (fun cl C s₂ H₂ fp pins s' σ' H' Q I h=>wpAny_pure ⟨H',I,h⟩) he hs
end L2
namespace Y9
open PySem L2 zE
def uT (ns:List Int)(i:Nat):Int:=(ns[i]?).getD 0
def Jx (K:Frag):Sp:=fun vs H Q _=>∃(l:Addr) (ns:List Int) (i:Nat),vs=[.ref l,.int i]/\zT K H l (ns.map V.int)/\Q (.int (uT ns i)) H
end Y9
namespace L2
theorem znv {σ:St}{H:Hp}{Q:Bool->Hp->Prop}(h:Q true H):Qd σ H Q:=h
end L2
namespace Y9
open PySem L2 zE
theorem Sn.zd0:∀s:Sn,s.count+1<=2^s.depth:=by
 have key:∀(d:Nat) (s:Sn),s.depth<=d->s.count+1<=2^d:=by
  intro d
  induction d with
  | zero=>intro s h;have:=Sn.N7 s;omega
  | succ d ih =>
   intro s h
   have hp:=Sn.Kp s
   have hl:=Sn.Pj s
   have hd:=Sn.Te s
   have hc:∀t∈s.parts,t.count+1<=2^d:=fun t ht=>ih t (by have:=hd t ht;omega)
   have p1:1<=2^d:=Nat.one_le_two_pow
   rw[Nat.pow_succ,hp]
   match hs:s.parts,hl with
   | [],_=>simp;omega
   | [a],_ =>
    have:=hc a (by rw[hs];simp)
    simp;omega
   | [a,b],_ =>
    have h1:=hc a (by rw[hs];simp)
    have h2:=hc b (by rw[hs];simp)
    simp;omega
   | a::b::c::r,h=>simp at h
 exact fun s=>key _ s (zus _)
end Y9
namespace L2
open PySem
theorem zcU:bootBuiltins "min"=some (.builtin "min"):=by decide +kernel
end L2
namespace PySem.SeqAt
open AutoSeq1 (wpAny_loadPart')
open MeetsSeq MeetsSeq2 MeetsSeq3 SeqRoads2
def Jd (A:Around)(s:Shared)(y x:Value)(b:Bool):Prop :=
 ∀(prog:Program) (w:World) (E:Value->Shared->Prop) (Q:Value->Shared->Prop),Q (.bool b) s->wpAny (model prog w) A (richCompare .Lt y x) Q E s
def Pr (e f:Nat->Bool)(m n:Nat):Nat->Nat->Bool
 | 0,_=>decide (m<n)
 | k+1,i=>if e i then Pr e f m n k (i+1) else f i
theorem zhn (l b:Addr)(items items2:Array Value)(n n2:Nat)(dd dd2:Option Addr)(sl sl2:Array (Option Value))(e f:Nat->Bool)(k:Nat) :
  ∀i:Nat,min items.size items2.size-i=k->Meets (Builtin.«list.__eq__.loop» ⟨[.ref l,.ref b,rawInt i,rawInt 0],[]⟩)
   (fun A R s=>s.heap.get? l=some { cls:=.type "list", dict:=dd,data:=.seq items n,slots:=sl }/\s.heap.get? b=some { cls:=.type "list", dict:=dd2,data:=.seq items2 n2,slots:=sl2 } /\
    (∀j (h1:j<items.size) (h2:j<items2.size),EqAt A.in1 s items[j] items2[j] (e j))/\(∀j (h1:j<items.size) (h2:j<items2.size),e j=false->Jd A.in1 s items[j] items2[j] (f j)) /\
    R (.ok (.ret (.bool (Pr e f items.size items2.size k i)))) s):=by
 induction k with
 | zero =>
  intro i hk prog w A R s h
  obtain⟨hp,g,d,tk,os⟩:=s;obtain⟨hl,hb,he,hf,h⟩:=h
  wp_walk using wpAny_loadPart' hl,wpAny_loadPart' hb
  by_cases h1:i<items.size
  ·have hi1:items[((i:Nat):Int).toNat]?=some items[i]:=by simp[h1]
   have hi2:items2[((i:Nat):Int).toNat]?=none:=by simp;omega
   rw[hi1,hi2]
   wp_walk using wpAny_loadPart' hl,wpAny_loadPart' hb
   exact h
  ·have hi1:items[((i:Nat):Int).toNat]?=none:=by simp;omega
   rw[hi1]
   wp_walk using wpAny_loadPart' hl,wpAny_loadPart' hb
   exact h
 | succ k ih =>
  intro i hk prog w A R s h
  obtain⟨hp,g,d,tk,os⟩:=s;obtain⟨hl,hb,he,hf,h⟩:=h
  wp_walk using wpAny_loadPart' hl,wpAny_loadPart' hb
  have hlt:i<items.size:=by omega
  have hlt2:i<items2.size:=by omega
  have hi1:items[((i:Nat):Int).toNat]?=some items[i]:=by simp[hlt]
  have hi2:items2[((i:Nat):Int).toNat]?=some items2[i]:=by simp[hlt2]
  have hc:((i:Int)+1)=((i+1:Nat):Int):=by push_cast;rfl
  rw[Pr] at h
  rw[hi1,hi2]
  refine wpAny_bind (he i hlt hlt2 prog w _ _ ?_)
  cases hb':e i with
  | true =>
   rw[hb',if_pos rfl] at h
   wp_walk
   rw[hc]
   exact⟨plainId_quiet plain_eq_loop _,codeAny_builtin entry_eq_loop (by
    rw[Around.under_plainId plain_eq_loop _]
    exact ih (i+1) (by omega) prog w A R _ ⟨hl,hb,he,hf,h⟩)⟩
  | false =>
   rw[hb',if_neg zug] at h
   wp_walk using wpAny_loadPart' hl,wpAny_loadPart' hb
   rw[hi1,hi2]
   refine wpAny_bind (hf i hlt hlt2 hb' prog w _ _ ?_)
   wp_walk
   exact h
theorem zho (l b:Addr)(items items2:Array Value)(n n2:Nat)(dd dd2:Option Addr)(sl sl2:Array (Option Value))(e f:Nat->Bool) :
  Meets (Builtin.«list.__lt__» ⟨[.ref l,.ref b],[]⟩)
   (fun A R s=>s.heap.get? l=some { cls:=.type "list", dict:=dd,data:=.seq items n,slots:=sl }/\s.heap.get? b=some { cls:=.type "list", dict:=dd2,data:=.seq items2 n2,slots:=sl2 } /\
    (∀j (h1:j<items.size) (h2:j<items2.size),EqAt A.in1 s items[j] items2[j] (e j))/\(∀j (h1:j<items.size) (h2:j<items2.size),e j=false->Jd A.in1 s items[j] items2[j] (f j)) /\
    R (.ok (.ret (.bool (Pr e f items.size items2.size (min items.size items2.size) 0)))) s):=by
 intro prog w A R s h
 obtain⟨hp,g,d,tk,os⟩:=s;obtain⟨hl,hb,he,hf,h⟩:=h
 have f3:=AutoSeq1.sub_list_list
 wp_walk using wpAny_loadPart' hl,wpAny_loadPart' hb
 exact⟨plainId_quiet plain_eq_loop _,codeAny_builtin entry_eq_loop (by
  rw[Around.under_plainId plain_eq_loop _]
  exact zhn l b items items2 n n2 dd dd2 sl sl2 e f _ 0 rfl prog w A R _ ⟨hl,hb,he,hf,h⟩)⟩
theorem zfi (l b:Addr)(items items2:Array Value)(n n2:Nat)(dd dd2:Option Addr)(sl sl2:Array (Option Value))(e f:Nat->Bool) :
  Meets (Builtin.«tuple.__lt__» ⟨[.ref l,.ref b],[]⟩)
   (fun A R s=>s.heap.get? l=some { cls:=.type "tuple", dict:=dd,data:=.seq items n,slots:=sl }/\s.heap.get? b=some { cls:=.type "tuple", dict:=dd2,data:=.seq items2 n2,slots:=sl2 } /\
    (∀j (h1:j<items.size) (h2:j<items2.size),EqAt A.in1 s items[j] items2[j] (e j))/\(∀j (h1:j<items.size) (h2:j<items2.size),e j=false->Jd A.in1 s items[j] items2[j] (f j)) /\
    R (.ok (.ret (.bool (Pr e f items.size items2.size (min items.size items2.size) 0)))) s) :=
 .of_wp fun prog w A R s h=>by
  obtain⟨hp,g,d,tk,os⟩:=s;obtain⟨hl,hb,he,hf,h⟩:=h
  have f2:=AutoSeq1.sub_tuple_tuple
  have hZ:(items.toList.zip items2.toList).length=min items.size items2.size:=by simp
  wp_walk using wpAny_loadPart' hl,wpAny_loadPart' hb,wpAny_forIn_list _ (fun rest b s'=>b.1=none/\s'=⟨hp,g,d,tk,os⟩/\∃i,rest=(items.toList.zip items2.toList).drop i /\
   R (.ok (.ret (.bool (Pr e f items.size items2.size (min items.size items2.size-i) i)))) ⟨hp,g,d,tk,os⟩) _
  case turn =>
   rintro⟨y,x⟩ rest b s' ⟨hb',rfl,i,hz,hR⟩
   have hlt:i<(items.toList.zip items2.toList).length:=by
    rcases Nat.lt_or_ge i (items.toList.zip items2.toList).length with h' | h'
    ·exact h'
    ·rw[List.drop_of_length_le h'] at hz;cases hz
   have hm:i<min items.size items2.size:=hZ ▸ hlt
   have h1:i<items.size:=zul hm (Nat.min_le_left _ _)
   have h2:i<items2.size:=zul hm (Nat.min_le_right _ _)
   rw[List.drop_eq_getElem_cons hlt] at hz
   injection hz with hyx hrest
   have hy:y=items[i]:=by have:=congrArg Prod.fst hyx;simpa using this
   have hx:x=items2[i]:=by have:=congrArg Prod.snd hyx;simpa using this
   subst hy hx
   have hk:min items.size items2.size-i=(min items.size items2.size-(i+1))+1:=by omega
   rw[hk,Pr] at hR
   refine wpAny_bind (he i h1 h2 prog w _ _ ?_)
   cases hy:e i with
   | true =>
    rw[hy,if_pos rfl] at hR
    wp_walk
    exact⟨rfl,rfl,i+1,hrest,hR⟩
   | false =>
    rw[hy,if_neg zug] at hR
    rw[if_pos (by rfl)]
    refine wpAny_bind (wpAny_rule (wpAny_bind (hf i h1 h2 hy prog w _ _ ?_)))
    wp_walk
    exact⟨_,rfl,hR⟩
  case fin =>
   rintro⟨b1,b2⟩ s' ⟨hb',rfl,i,hz,hR⟩
   simp only at hb'
   subst hb'
   have hge:min items.size items2.size<=i:=by
    rcases Nat.lt_or_ge i (items.toList.zip items2.toList).length with h' | h'
    ·rw[List.drop_eq_getElem_cons h'] at hz;cases hz
    ·exact hZ ▸ h'
   rw[Nat.sub_eq_zero_of_le hge,Pr] at hR
   wp_walk
   exact⟨_,rfl,by simpa [Builtin.Tuple.tupleCompareSizes] using hR⟩
  case h =>
   exact⟨rfl,rfl,0,rfl,h⟩
section
variable {A:Around}{s:Shared}
theorem Jd.lists {l b:Addr}{items items2:Array Value}{e f:Nat->Bool}(hl:s.heap.IsList l items)(hb:s.heap.IsList b items2)(hu:A.units<cLine)
  (he:∀j (h1:j<items.size) (h2:j<items2.size),EqAt A.in1 s items[j] items2[j] (e j))(hf:∀j (h1:j<items.size) (h2:j<items2.size),e j=false->Jd A.in1 s items[j] items2[j] (f j)) :
  Jd A s (.ref l) (.ref b) (Pr e f items.size items2.size (min items.size items2.size) 0):=fun prog w E Q h=>by
 obtain⟨⟨cls,dd,data,sl⟩,ho,hc,n,hd⟩:=id hl
 obtain⟨⟨cls2,dd2,data2,sl2⟩,ho2,hc2,n2,hd2⟩:=id hb
 simp only at hc hd hc2 hd2
 subst hc hd hc2 hd2
 exact richCompare_meets_room (op:=.Lt) ⟨_,ho,rfl⟩ ⟨_,ho2,rfl⟩ F.slot_list_lt F.entry_list_lt (F.args_list_lt_2 _ _) (zho l b items items2 n n2 dd dd2 sl sl2 e f)
  ⟨ho,ho2,he,hf,show Value.bool _≠Value.notImplemented/\Q (.bool _) s from ⟨(fun x=>nomatch x),h⟩⟩ hu
theorem Jd.tuples {l b:Addr}{items items2:Array Value}{e f:Nat->Bool}(hl:s.heap.IsTuple l items)(hb:s.heap.IsTuple b items2)(hu:A.units<cLine)
  (he:∀j (h1:j<items.size) (h2:j<items2.size),EqAt A.in1 s items[j] items2[j] (e j))(hf:∀j (h1:j<items.size) (h2:j<items2.size),e j=false->Jd A.in1 s items[j] items2[j] (f j)) :
  Jd A s (.ref l) (.ref b) (Pr e f items.size items2.size (min items.size items2.size) 0):=fun prog w E Q h=>by
 obtain⟨⟨cls,dd,data,sl⟩,ho,hc,n,hd⟩:=id hl
 obtain⟨⟨cls2,dd2,data2,sl2⟩,ho2,hc2,n2,hd2⟩:=id hb
 simp only at hc hd hc2 hd2
 subst hc hd hc2 hd2
 exact richCompare_meets_room (op:=.Lt) ⟨_,ho,rfl⟩ ⟨_,ho2,rfl⟩ F.slot_tuple_lt F.entry_tuple_lt (F.args_tuple_lt_2 _ _) (zfi l b items items2 n n2 dd dd2 sl sl2 e f)
  ⟨ho,ho2,he,hf,show Value.bool _≠Value.notImplemented/\Q (.bool _) s from ⟨(fun x=>nomatch x),h⟩⟩ hu
end
end PySem.SeqAt
namespace L2
open PySem PySem.Spec PyProof.Rows
inductive LtD (K:Frag)(H:Hp):Nat->V->V->Bool->Prop
 | int {n:Nat} {i j:Int}:LtD K H n (.int i) (.int j) (decide (i<j))
 | ll {n:Nat} {p q:Addr} {xs ys:List V} {e f:Nat->Bool} (hp:zT K H p xs) (hq:zT K H q ys) (he:∀(j:Nat) x y,xs[j]?=some x->ys[j]?=some y->Qg K H n x y (e j))
   (hf:∀(j:Nat) x y,xs[j]?=some x->ys[j]?=some y->e j=false->LtD K H n x y (f j)):LtD K H (n+1) (.ref p) (.ref q) (SeqAt.Pr e f xs.length ys.length (min xs.length ys.length) 0)
 | tt {n:Nat} {p q:Addr} {xs ys:List V} {e f:Nat->Bool} (hp:wK K H p xs) (hq:wK K H q ys) (he:∀(j:Nat) x y,xs[j]?=some x->ys[j]?=some y->Qg K H n x y (e j))
   (hf:∀(j:Nat) x y,xs[j]?=some x->ys[j]?=some y->e j=false->LtD K H n x y (f j)):LtD K H (n+1) (.ref p) (.ref q) (SeqAt.Pr e f xs.length ys.length (min xs.length ys.length) 0)
section
variable {X:Cx}{pins:List (Addr×Obj)}{σ:St}{H:Hp}{s:Shared}
theorem LtD.at {n:Nat}{x y:V}{b:Bool}(h:LtD X.K H n x y b)(I:Inv X pins σ H s):∀{A:Around} {u v:Value},RelV x u->RelV y v->A.units+n<cLine->SeqAt.Jd A s u v b:=by
 induction h with
 | int =>
  intro A u v rx ry _ prog w E Q hq
  obtain⟨t,rfl⟩:=rx
  obtain⟨t2,rfl⟩:=ry
  exact CmpOf.ints_lt (prog:=prog) (w:=w) (A:=A) (P:=fun k v=>∃t,v=.int (if k=0 then _ else _) t) _ (fun _ _ z=>z) 0 1 _ _ s Q E ⟨t,rfl⟩ ⟨t2,rfl⟩ hq
 | @ll n p q xs ys e f hp hq he hf ih =>
  intro A u v rx ry hu
  cases rx
  cases ry
  obtain⟨us,r1,t1,_⟩:=I.list hp
  obtain⟨ws,r2,t2,_⟩:=I.list hq
  have l1:=r1.length
  have l2:=r2.length
  have z:=SeqAt.Jd.lists (A:=A) (e:=e) (f:=f) t1.isList t2.isList (by omega) (fun j h1 h2=>by
    obtain⟨x,hx,rx⟩:=item_at r1 h1
    obtain⟨y,hy,ry⟩:=item_at r2 h2
    exact(he j x y hx hy).at I rx ry (by show A.units+1+n<cLine;omega)) (fun j h1 h2 hn=>by
    obtain⟨x,hx,rx⟩:=item_at r1 h1
    obtain⟨y,hy,ry⟩:=item_at r2 h2
    exact ih j x y hx hy hn rx ry (by show A.units+1+n<cLine;omega))
  rw[zum,zum,<-l1,<-l2] at z
  exact z
 | @tt n p q xs ys e f hp hq he hf ih =>
  intro A u v rx ry hu
  cases rx
  cases ry
  obtain⟨us,r1,t1,_⟩:=I.tuple hp
  obtain⟨ws,r2,t2,_⟩:=I.tuple hq
  have l1:=r1.length
  have l2:=r2.length
  have z:=SeqAt.Jd.tuples (A:=A) (e:=e) (f:=f) t1 t2 (by omega) (fun j h1 h2=>by
    obtain⟨x,hx,rx⟩:=item_at r1 h1
    obtain⟨y,hy,ry⟩:=item_at r2 h2
    exact(he j x y hx hy).at I rx ry (by show A.units+1+n<cLine;omega)) (fun j h1 h2 hn=>by
    obtain⟨x,hx,rx⟩:=item_at r1 h1
    obtain⟨y,hy,ry⟩:=item_at r2 h2
    exact ih j x y hx hy hn rx ry (by show A.units+1+n<cLine;omega))
  rw[zum,zum,<-l1,<-l2] at z
  exact z
end
def zk3 (P:Program)(w:World)(A:Around)(G:Shared->Prop)(V:Nat->Value->Prop)(bt:Nat->Nat->Bool):Prop :=
 ∀i j vi vj (s:Shared) (Q:Value->Shared->Prop) (E:Value->Shared->Prop),V i vi->V j vj->G s->Q (.bool (bt i j)) s->wpAny (model P w) A (richCompare .Lt vi vj) Q E s
section
variable {prog:Program}{w:World}{A:Around}{R:Result->Shared->Prop}{I:Addr}{fp wr:List Addr}{n:Nat}{V:Nat->Value->Prop}{St:Nat->Heap->Prop}{G:Shared->Prop}{kw:List (Str×Value)}
theorem zhp (W:Walks prog w A.in1 I fp wr n V St)(bt:Nat->Nat->Bool)(S:Addr)(hcmp:zk3 prog w A.in1 G V bt)(hG:∀(s:Shared) (h':Heap) (tk:Tok),(∀b o,b∉wr->b≠S->s.heap.get? b=some o->h'.get? b=some o)->G s->G { s with heap:=h',toks:=tk })(hSf:S∉fp) :
  ∀(k j:Nat) (s:Shared) (vb:Value) (c:Nat),n-(j+1)=k->j+1<=n->St (j+1) s.heap->G s->V (argBest bt j) vb ->
  s.heap.get? S=some { cls:=.type "list", dict:=none,data:=.seq #[vb,vb] c,slots:=#[] } ->
  (∀v h' tk,V (argBest bt (n-1)) v->(∀b o,b∉wr->b≠S->s.heap.get? b=some o->h'.get? b=some o)->R (.ok (.ret v)) { s with heap:=h',toks:=tk }) ->
  codeAny (model prog w) A (.builtin "min.loop" ⟨[.ref I,.none,.ref S],kw⟩) R s:=by
 have hSw:S∉wr:=fun h=>hSf (W.sub _ h)
 have hname:(toString "min" ++ toString ".loop" : String)="min.loop" := by decide
 intro k
 induction k with
 | zero =>
  intro j s vb c hk hj hst hg hPb hS hR
  have hin:j+1=n:=by omega
  refine codeAny_builtin F.entry_min_loop ?_
  rw[Around.under_plainId F.plain_min_loop _]
  show wpAny _ A.in1 (seqItems? (.ref S)>>=_) _ _ s
  refine wpAny_bind (wpAny_seqItems hS rfl ?_)
  show wpAny _ A.in1 (tryCatch (pyNext (.ref I)) _>>=_) _ _ s
  refine wpAny_bind (wpAny_tryCatch (W.done s _ _ (hin ▸ hst) fun h' tk hk'=>?_))
  have hS':=hk' S _ hSw hS
  show wpAny _ A.in1 (updateSeq S (fun _=>#[])>>=_) _ _ _
  refine wpAny_bind ?_
  refine wpAny_updateSeq hS' rfl (wpAny_bind (wpAny_letGo (wpAny_pure ?_)))
  refine hR vb _ tk (by rw[<-hin];exact hPb) fun b o hbw hbS e=>(Heap.get?_update_other _ _ (Ne.symm hbS)).trans (hk' b o hbw e)
 | succ k ih =>
  intro j s vb c hk hj hst hg hPb hS hR
  have hlt:j+1<n:=by omega
  refine codeAny_builtin F.entry_min_loop ?_
  rw[Around.under_plainId F.plain_min_loop _]
  show wpAny _ A.in1 (seqItems? (.ref S)>>=_) _ _ s
  refine wpAny_bind (wpAny_seqItems hS rfl ?_)
  show wpAny _ A.in1 (tryCatch (pyNext (.ref I)) _>>=_) _ _ s
  refine wpAny_bind (wpAny_tryCatch (W.item (j+1) s _ _ hlt hst fun v h' tk hP hst' hk'=>?_))
  have hS':=hk' S _ hSw hS
  have hg':G { s with heap:=h',toks:=tk }:=hG _ _ _ (fun b o hbw _ e=>hk' b o hbw e) hg
  show wpAny _ A.in1 (tryCatch (holding [v,v] (richCompare .Lt v vb>>=_)) _>>=_) _ _ _
  refine wpAny_bind (wpAny_tryCatch (wpAny_holding (wpAny_bind (hcmp (j+1) (argBest bt j) v vb _ _ _ hP hPb hg' ?_))))
  refine wpAny_bind (wpAny_holding (wpAny_truthy_bool ?_))
  refine wpAny_bind (wpAny_letGo (wpAny_pure ?_))
  cases hb:bt (j+1) (argBest bt j) with
  | true =>
   simp only[if_true]
   refine wpAny_bind ?_
   refine wpAny_updateSeq hS' rfl (wpAny_bind (wpAny_letGo ?_))
   rw[hname]
   refine wpAny_pure ⟨plainId_quiet F.plain_min_loop _,ih (j+1) _ v _ (by omega) hlt (W.frame _ _ _ hst' fun b hbf o e=>?_) (hG _ _ _ (fun b o _ hbS e=>(Heap.get?_update_other _ _ (Ne.symm hbS)).trans e) hg') (by simp only[argBest,hb,if_true];exact hP) (Heap.get?_update_self _ hS' rfl)
    fun v' h'' tk'' hP' hk''=>?_⟩
   ·exact(Heap.get?_update_other _ _ (fun h:S=b=>hSf (by rw[h];exact hbf))).trans e
   ·exact hR v' h'' tk'' hP' fun b o hbw hbS e=>hk'' b o hbw hbS ((Heap.get?_update_other _ _ (Ne.symm hbS)).trans (hk' b o hbw e))
  | false =>
   simp only[Bool.false_eq_true,if_false]
   refine wpAny_bind (wpAny_letGo ?_)
   rw[hname]
   refine wpAny_pure ⟨plainId_quiet F.plain_min_loop _,ih (j+1) _ vb c (by omega) hlt hst' hg' (by simp only[argBest,hb,Bool.false_eq_true,if_false];exact hPb) hS' fun v' h'' tk'' hP' hk''=>?_⟩
   exact hR v' h'' tk'' hP' fun b o hbw hbS e=>hk'' b o hbw hbS (hk' b o hbw e)
theorem zal (W:Walks prog w A.in1 I fp wr n V St)(bt:Nat->Nat->Bool)(S:Addr)(hcmp:zk3 prog w A.in1 G V bt)(hG:∀(s:Shared) (h':Heap) (tk:Tok),(∀b o,b∉wr->b≠S->s.heap.get? b=some o->h'.get? b=some o)->G s->G { s with heap:=h',toks:=tk })(hSf:S∉fp)(hn:0<n){s:Shared}{c:Nat}(hst:St 0 s.heap)(hg:G s)
  (hS:s.heap.get? S=some { cls:=.type "list", dict:=none,data:=.seq #[] c,slots:=#[] })
  (hR:∀v h' tk,V (argBest bt (n-1)) v->(∀b o,b∉wr->b≠S->s.heap.get? b=some o->h'.get? b=some o)->R (.ok (.ret v)) { s with heap:=h',toks:=tk }) :
  codeAny (model prog w) A (.builtin "min.loop" ⟨[.ref I,.none,.ref S],kw⟩) R s:=by
 have hSw:S∉wr:=fun h=>hSf (W.sub _ h)
 have hname:(toString "min" ++ toString ".loop" : String)="min.loop" := by decide
 refine codeAny_builtin F.entry_min_loop ?_
 rw[Around.under_plainId F.plain_min_loop _]
 show wpAny _ A.in1 (seqItems? (.ref S)>>=_) _ _ s
 refine wpAny_bind (wpAny_seqItems hS rfl ?_)
 show wpAny _ A.in1 (tryCatch (pyNext (.ref I)) _>>=_) _ _ s
 refine wpAny_bind (wpAny_tryCatch (W.item 0 s _ _ hn hst fun v h' tk hP hst' hk'=>?_))
 have hS':=hk' S _ hSw hS
 have hg':G { s with heap:=h',toks:=tk }:=hG _ _ _ (fun b o hbw _ e=>hk' b o hbw e) hg
 show wpAny _ A.in1 (updateSeq S (fun _=>#[v,v])>>=_) _ _ _
 refine wpAny_bind ?_
 refine wpAny_updateSeq hS' rfl ?_
 rw[hname]
 refine wpAny_pure ⟨plainId_quiet F.plain_min_loop _,zhp W bt S hcmp hG hSf _ 0 _ v _ rfl hn (W.frame _ _ _ hst' fun b hbf o e=>?_) (hG _ _ _ (fun b o _ hbS e=>(Heap.get?_update_other _ _ (Ne.symm hbS)).trans e) hg') hP (Heap.get?_update_self _ hS' rfl) fun v' h'' tk'' hP' hk''=>?_⟩
 ·exact(Heap.get?_update_other _ _ (fun h:S=b=>hSf (by rw[h];exact hbf))).trans e
 ·exact hR v' h'' tk'' hP' fun b o hbw hbS e=>hk'' b o hbw hbS ((Heap.get?_update_other _ _ (Ne.symm hbS)).trans (hk' b o hbw e))
theorem ziX (W:Walks prog w A.in1 I fp wr 0 V St)(S:Addr)(hSf:S∉fp){s:Shared}{c:Nat}{d:Value}(hst:St 0 s.heap)
  (hS:s.heap.get? S=some { cls:=.type "list", dict:=none,data:=.seq #[] c,slots:=#[] })
  (hR:∀h' tk,(∀b o,b∉wr->s.heap.get? b=some o->h'.get? b=some o)->R (.ok (.ret d)) { s with heap:=h',toks:=tk }) :
  codeAny (model prog w) A (.builtin "min.loop" ⟨[.ref I,.none,.ref S],[(Str.ofString "default", d)]⟩) R s:=by
 refine codeAny_builtin F.entry_min_loop ?_
 rw[Around.under_plainId F.plain_min_loop _]
 show wpAny _ A.in1 (seqItems? (.ref S)>>=_) _ _ s
 refine wpAny_bind (wpAny_seqItems hS rfl ?_)
 show wpAny _ A.in1 (tryCatch (pyNext (.ref I)) _>>=_) _ _ s
 refine wpAny_bind (wpAny_tryCatch (W.done s _ _ hst fun h' tk hk'=>?_))
 exact wpAny_bind (wpAny_rule (wpAny_pure (hR h' tk hk')))
end
theorem VF (a v:Value):argsOk "min" ⟨[a],[(Str.ofString "default", v)]⟩:=by unfold argsOk;kernel_rfl
section
variable {X:Cx}{pins:List (Addr×Obj)}{σ:St}{H:Hp}{s:Shared}
theorem min_list {p:Addr}{ys:List V}{bt:Nat->Nat->Bool}{kw:List (Str×Value)}{Q:VK}{E:Value->Shared->Prop}(I:Inv X pins σ H s)(hc:X.calm=true)(hu:X.A.units+9<cLine)(hkw:kw=[]\/∃d,kw=[(Str.ofString "default", d)])(hq:zT X.K H p ys)(h0:0<ys.length)
  (hcmp:∀(i j:Nat) x y,ys[i]?=some x->ys[j]?=some y->LtD X.K H 8 x y (bt i j))(q:∀v,ys[argBest bt (ys.length-1)]?=some v->Q v H) :
  wpAny (model X.prog X.w) X.A (call (.builtin "min") [.ref p] kw) (EP X pins σ Q) E s:=by
 have hname:(toString "min" ++ toString ".loop" : String)="min.loop" := by decide
 obtain⟨its,r',pl,hz⟩:=I.list hq
 have hlen:=r'.length
 have hlt:p<s.heap.objs.size:=by obtain⟨_,e,_⟩:=pl.isList;exact zuj e
 have ha:argsOk "min" ⟨[.ref p],kw⟩:=by
  rcases hkw with rfl | ⟨d,rfl⟩
  ·exact F.args_min1 _
  ·exact VF _ _
 have hb:∃d,Builtin.Builtins.bindParams "min" ["key", "default"] 0 ⟨[],kw⟩=pure [none,d]/\(d.toList.map fun d=>(Str.ofString "default", d))=kw:=by
  rcases hkw with rfl | ⟨d,rfl⟩
  ·exact⟨none,rfl,rfl⟩
  ·exact⟨some d,rfl,rfl⟩
 obtain⟨d,hb,ekw⟩:=hb
 refine kmk_tree F.kind_min F.plain_min F.entry_min ha ?_
 show wpAny _ X.A.in1 (Builtin.Builtins.bindParams "min" ["key", "default"] 0 ⟨[],kw⟩>>=_) _ _ s
 refine wpAny_bind (wpAny_of_eq hb ?_)
 refine wpAny_bind (wpAny_pure ?_)
 refine wpAny_bind (wpAny_pyIter_list pl.isList ?_)
 refine wpAny_bind (wpAny_newObj_type ?_)
 rw[hname]
 refine wpAny_pure ⟨plainId_quiet F.plain_min_loop _,?_⟩
 show codeAny _ _ (.builtin "min.loop" ⟨[.ref s.heap.objs.size,.none,.ref _],d.toList.map fun d=>(Str.ofString "default", d)⟩) _ _
 rw[ekw]
 have szI:(s.heap.push { cls:=.type "list_iterator", data:=.fields #[.ref p,.int 0 0] }).objs.size=s.heap.objs.size+1:=Heap.size_push _ _
 have back:∀(i:Nat) (v:Value),its.toArray[i]?=some v->∃x,ys[i]?=some x/\RelV x v:=fun i v e=>by
  obtain⟨hi,e'⟩:=Array.getElem?_eq_some_iff.mp e
  obtain⟨x,hx,rx⟩:=item_at r' hi
  rw[e'] at rx
  exact⟨x,hx,rx⟩
 have kpS:∀b o,s.heap.get? b=some o->b≠s.heap.objs.size/\b≠s.heap.objs.size+1:=fun b o e=>by
  have:=zuj e
  exact⟨fun z=>by rw[z] at this;exact Nat.lt_irrefl _ this,fun z=>by rw[z] at this;exact Nat.lt_irrefl _ (Nat.lt_of_succ_lt this)⟩
 refine zal (G:=fun s'=>∃h tk,s'={ s with heap:=h,toks:=tk }/\∀b o,s.heap.get? b=some o->h.get? b=some o) (Walks.list (A:=X.A.in1) (I.ok.hd hc) s.heap.objs.size p (zur hlt) its.toArray) bt _ ?_ ?_ ?_ ?_ ⟨?_,?_⟩ ?_ (zuw _ rfl) ?_
 ·rintro i j vi vj s' Q' E' hi hj ⟨h,tk,rfl,kp⟩ hQ
  obtain⟨x,hx,rx⟩:=back i vi hi
  obtain⟨y,hy,ry⟩:=back j vj hj
  exact(hcmp i j x y hx hy).at (I.kept (t':=tk) kp) rx ry (by show X.A.units+1+8<cLine;omega) _ _ _ _ hQ
 ·rintro s' h' tk hk ⟨h,tk2,rfl,kp⟩
  refine⟨h',tk,rfl,fun b o e=>hk b o ?_ ?_ (kp b o e)⟩
  ·rw[List.mem_singleton];exact(kpS b o e).1
  ·intro z
   rw[z] at e
   have:=zuj e
   rw[szI] at this
   exact Nat.lt_irrefl _ (Nat.lt_of_succ_lt this)
 ·intro hm
  have z:(s.heap.push { cls:=.type "list_iterator", data:=.fields #[.ref p,.int 0 0] }).objs.size=s.heap.objs.size\/(s.heap.push { cls:=.type "list_iterator", data:=.fields #[.ref p,.int 0 0] }).objs.size=p:=by simpa using hm
  rw[szI] at z
  rcases z with z | z
  ·exact absurd z (Nat.succ_ne_self _)
  ·rw[<-z] at hlt;exact Nat.lt_irrefl _ (Nat.lt_of_succ_lt hlt)
 ·rw[zum];omega
 ·exact⟨_,zui _ (zuw _ rfl),rfl,rfl⟩
 ·exact(pl.isList.push _).push _
 ·exact⟨_,_,rfl,fun b o e=>zui _ (zui _ e)⟩
 ·intro v h' tk hP hk
  obtain⟨x,hx,rx⟩:=back _ v hP
  have kp:∀b o,s.heap.get? b=some o->h'.get? b=some o:=fun b o e=>hk b o (by rw[List.mem_singleton];exact(kpS b o e).1) (fun z=>by
   rw[z] at e
   have:=zuj e
   rw[szI] at this
   exact Nat.lt_irrefl _ (Nat.lt_of_succ_lt this)) (zui _ (zui _ e))
  rw[zum,<-hlen] at hx
  exact⟨x,H,I.kept kp,rx,q x hx⟩
theorem zhq {p:Addr}{d:Value}{dv:V}{Q:VK}{E:Value->Shared->Prop}(I:Inv X pins σ H s)(hc:X.calm=true)(hq:zT X.K H p [])(rd:RelV dv d)(q:Q dv H) :
  wpAny (model X.prog X.w) X.A (call (.builtin "min") [.ref p] [(Str.ofString "default", d)]) (EP X pins σ Q) E s:=by
 have hname:(toString "min" ++ toString ".loop" : String)="min.loop" := by decide
 obtain⟨its,r',pl,hz⟩:=I.list hq
 have hits:its=[]:=List.length_eq_zero_iff.mp r'.length.symm
 subst hits
 have hlt:p<s.heap.objs.size:=by obtain⟨_,e,_⟩:=pl.isList;exact zuj e
 refine kmk_tree F.kind_min F.plain_min F.entry_min (VF _ _) ?_
 show wpAny _ X.A.in1 (Builtin.Builtins.bindParams "min" ["key", "default"] 0 ⟨[],[(Str.ofString "default", d)]⟩>>=_) _ _ s
 refine wpAny_bind (wpAny_of_eq (show Builtin.Builtins.bindParams "min" ["key", "default"] 0 ⟨[],[(Str.ofString "default", d)]⟩=pure [none,some d] from rfl) ?_)
 refine wpAny_bind (wpAny_pure ?_)
 refine wpAny_bind (wpAny_pyIter_list pl.isList ?_)
 refine wpAny_bind (wpAny_newObj_type ?_)
 rw[hname]
 refine wpAny_pure ⟨plainId_quiet F.plain_min_loop _,?_⟩
 have szI:(s.heap.push { cls:=.type "list_iterator", data:=.fields #[.ref p,.int 0 0] }).objs.size=s.heap.objs.size+1:=Heap.size_push _ _
 refine ziX (Walks.list (A:=X.A.in1) (I.ok.hd hc) s.heap.objs.size p (zur hlt) ([]:List Value).toArray) _ ?_ ⟨?_,?_⟩ (zuw _ rfl) ?_
 ·intro hm
  have z:(s.heap.push { cls:=.type "list_iterator", data:=.fields #[.ref p,.int 0 0] }).objs.size=s.heap.objs.size\/(s.heap.push { cls:=.type "list_iterator", data:=.fields #[.ref p,.int 0 0] }).objs.size=p:=by simpa using hm
  rw[szI] at z
  rcases z with z | z
  ·exact absurd z (Nat.succ_ne_self _)
  ·rw[<-z] at hlt;exact Nat.lt_irrefl _ (Nat.lt_of_succ_lt hlt)
 ·exact⟨_,zui _ (zuw _ rfl),rfl,rfl⟩
 ·exact(pl.isList.push _).push _
 ·intro h' tk hk
  have kp:∀b o,s.heap.get? b=some o->h'.get? b=some o:=fun b o e=>hk b o (fun hm=>by
   rw[List.mem_singleton.mp hm] at e
   exact Nat.lt_irrefl _ (zuj e)) (zui _ (zui _ e))
  exact⟨dv,H,I.kept kp,rd,q⟩
end
def zkk (K:Frag)(t:TA)(td:TE):TE:=fun σ H Q=>t σ H fun xs H1=>U8 td zbj σ H1 fun zs H2=>∃(p:Addr) (ys:List V) (dv:V),xs=[.ref p]/\zs=[dv]/\zT K H2 p ys /\
 ((ys=[]/\Q dv H2)\/∃bt:Nat->Nat->Bool,0<ys.length/\(∀(i j:Nat) x y,ys[i]?=some x->ys[j]?=some y->LtD K H2 8 x y (bt i j))/\∀v,ys[argBest bt (ys.length-1)]?=some v->Q v H2)
section
variable {X:Cx}{x:Str}{p pos kpos:Pos}{e d:Expr}{t:TA}{td:TE}
theorem zca {K:Frag}(hK:X.K=K)(hc:X.calm=true)(hu:X.A.units+9<cLine)(hg:Gl X x)(hm:X.mg x=none)(hv:bootBuiltins x=some (.builtin "min"))(ha:PA X [e] t)(hd:PE X d td)(hn:x ≠ "__name__" := by decide)(hdb:(x==("__debug__" : Str))=false:=by decide)
  (he:backTo pos (starEach [e] X.env)=(false,eval e X.env)::backTo pos (starEach [] X.env):=by rfl)(hpl:(backTo pos (starEach [e] X.env)).any (·.1)=false:=by rfl)
  (hks:(backToKw pos (keywordEach [⟨some "default", d,kpos⟩] X.env)).filterMap (·.1)=[Str.ofString "default"]:=by rfl) :
  PE X (.Call (.Name x p) [e] [⟨some "default", d,kpos⟩] pos) (zkk K t td):=by
 subst hK
 intro pins s σ H Q I h
 refine wpAny_Call_Name_kw (Vr I hg hm hv ?_ hn hdb)
 refine callWith_kw (wM (ha pos pins s σ H _ I h) fun us s1 ⟨vs,H1,I1,r1,q1⟩=>?_) he hpl
 refine wM ((zjG (nm:=some "default") (kpos:=kpos) hd zlA) pos pins s1 σ H1 _ I1 q1) fun ws s2 ⟨zs,H2,I2,rz,q2⟩=>?_
 rw[hks]
 obtain⟨pp,ys,dv,rfl,rfl,hq,hh⟩:=q2
 obtain⟨u,rfl,rx⟩:=vals1 r1
 cases rx
 obtain⟨z,rfl,rz'⟩:=vals1 rz
 rcases hh with ⟨rfl,qd⟩ | ⟨bt,h0,hcmp,q⟩
 ·exact zhq I2 hc hq rz' qd
 ·exact min_list I2 hc hu (.inr ⟨z,rfl⟩) hq h0 hcmp q
end
end L2
namespace zE
open PySem
theorem RL {w:Nat->Int}{bt:Nat->Nat->Bool}{n:Nat}(h:∀i j,j<i->i<n->bt i j=decide (w i<w j)):∀k,k<n->argBest bt k<=k/\(∀i,i<=k->w (argBest bt k)<=w i)/\∀i,i<argBest bt k->w (argBest bt k)<w i
 | 0,_=>by
  refine⟨zus _,fun i hi=>?_,fun i hi=>absurd hi (Nat.not_lt_zero _)⟩
  have e:i=0:=by omega
  rw[e]
  exact Int.le_refl _
 | k+1,hk=>by
  obtain⟨a1,a2,a3⟩:=RL h k (by omega)
  have hb:=h (k+1) (argBest bt k) (by omega) hk
  by_cases hw:w (k+1)<w (argBest bt k)
  ·have e:argBest bt (k+1)=k+1:=by
    show(if bt (k+1) (argBest bt k)=true then k+1 else argBest bt k)=k+1
    rw[hb,decide_eq_true hw,if_pos rfl]
   rw[e]
   refine⟨zus _,fun i hi=>?_,fun i hi=>?_⟩
   ·by_cases hik:i=k+1
    ·subst hik;exact Int.le_refl _
    ·have:=a2 i (by omega);omega
   ·have:=a2 i (by omega);omega
  ·have e:argBest bt (k+1)=argBest bt k:=by
    show(if bt (k+1) (argBest bt k)=true then k+1 else argBest bt k)=argBest bt k
    rw[hb,decide_eq_false hw,if_neg zug]
   rw[e]
   refine⟨by omega,fun i hi=>?_,a3⟩
   by_cases hik:i=k+1
   ·subst hik;omega
   ·exact a2 i (by omega)
abbrev Wg:=Int×Int
def w2 (s:Wg)(v:Bool):Int:=if v then s.2 else s.1
def wgl (ws:List Wg)(r:List Bool):List Int:=(r.zip ws).map fun p=>w2 p.2 p.1
def wg (ws:List Wg)(r:List Bool):Int:=(wgl ws r).sum
def uU:List Bool->List Bool->Bool
 | a::r,b::t=>if a==b then uU r t else !a&&b
 | [],_::_=>true
 | _,[]=>false
theorem zam:∀{r t:List Bool},r.length=t.length->uU r t=true->∀u v,uU (r++[u]) (t++[v])=true
 | [],[],_,h,_,_=>by cases h
 | a::r,b::t,hl,h,u,v=>by
  show(if a==b then uU (r++[u]) (t++[v]) else !a&&b)=true
  have h':(if a==b then uU r t else !a&&b)=true:=h
  cases hab:a==b with
  | true =>
   rw[hab] at h'
   simp only[if_true] at h' ⊢
   exact zam (by simpa using hl) h' u v
  | false =>
   rw[hab] at h'
   exact h'
theorem zan:∀(r:List Bool),uU (r++[false]) (r++[true])=true
 | []=>rfl
 | a::r=>by
  show(if a==a then uU (r++[false]) (r++[true]) else !a&&a)=true
  rw[beq_self_eq_true,if_pos rfl]
  exact zan r
theorem zcb:∀(l:List (List Bool)),(∀r∈l,∀t∈l,r.length=t.length)->l.Pairwise (fun r t=>uU r t=true)->(l.flatMap fun r=>[r++[false],r++[true]]).Pairwise (fun r t=>uU r t=true)
 | [],_,_=>List.Pairwise.nil
 | r::l,hl,h=>by
  rw[List.pairwise_cons] at h
  rw[List.flatMap_cons,List.pairwise_append]
  refine⟨List.pairwise_cons.mpr ⟨fun t ht=>?_,List.pairwise_cons.mpr ⟨fun t ht=>by simp at ht,List.Pairwise.nil⟩⟩,zcb l (fun a ha b hb=>hl a (zun _ ha) b (zun _ hb)) h.2,fun a ha b hb=>?_⟩
  ·have e:t=r++[true]:=by simpa using ht
   rw[e]
   exact zan r
  ·obtain⟨t,ht,hb'⟩:=List.mem_flatMap.mp hb
   have hrt:=h.1 t ht
   have hlen:=hl r zuv t (zun _ ht)
   have ea:a=r++[false]\/a=r++[true]:=by simpa using ha
   have eb:b=t++[false]\/b=t++[true]:=by simpa using hb'
   rcases ea with ea | ea<;>rcases eb with eb | eb<;>rw[ea,eb]<;>exact zam hlen hrt _ _
theorem zcc:∀n,(allR n).Pairwise (fun r t=>uU r t=true)
 | 0=>List.pairwise_cons.mpr ⟨fun t ht=>by simp at ht,List.Pairwise.nil⟩
 | n+1=>zcb _ (fun r hr t ht=>(YG n r hr).trans (YG n t ht).symm) (zcc n)
theorem zhr (n:Nat)(rs:List Rm)(k:Nat):(wJ n rs k).Pairwise (fun r t=>uU r t=true):=(zcc n).filter _
theorem Qh:∀{r t:List Bool},uU r t=true->uU t r=false
 | [],[],h=>by cases h
 | [],_::_,_=>rfl
 | _::_,[],h=>by cases h
 | a::r,b::t,h=>by
  have h':(if a==b then uU r t else !a&&b)=true:=h
  show(if b==a then uU t r else !b&&a)=false
  cases a<;>cases b
  ·exact Qh (r:=r) (t:=t) h'
  ·rfl
  ·cases h'
  ·exact Qh (r:=r) (t:=t) h'
end zE
namespace Y9
open PySem L2 zE
theorem SX (a b:Int):eqV (.int a) (.int b)=decide (a=b):=by
 by_cases h:a=b
 ·subst h;rw[decide_eq_true rfl];simp[eqV]
 ·rw[decide_eq_false h];simp[eqV,h]
theorem zcd {r t:List Bool}(hl:r.length=t.length):∀(k i:Nat),k+i=r.length->SeqAt.Pr (fun j=>r.getD j false==t.getD j false) (fun j=>!r.getD j false&&t.getD j false) r.length t.length k i=uU (r.drop i) (t.drop i)
 | 0,i,h=>by
  rw[List.drop_of_length_le (by omega),List.drop_of_length_le (by omega)]
  show decide (r.length<t.length)=false
  rw[decide_eq_false (by omega)]
 | k+1,i,h=>by
  have h1:i<r.length:=by omega
  have h2:i<t.length:=by omega
  rw[List.drop_eq_getElem_cons h1,List.drop_eq_getElem_cons h2]
  show(if (r.getD i false==t.getD i false)=true then SeqAt.Pr _ _ _ _ k (i+1) else _)=(if r[i]==t[i] then uU (r.drop (i+1)) (t.drop (i+1)) else !r[i]&&t[i])
  rw[zcd hl k (i+1) (by omega)]
  have e1:r.getD i false=r[i]:=by rw[zup,zud h1];rfl
  have e2:t.getD i false=t[i]:=by rw[zup,zud h2];rfl
  dsimp only
  rw[e1,e2]
theorem zkl {K:Frag}{H:Hp}{n:Nat}{p q:Addr}{r t:List Bool}(hp:zT K H p (uP r))(hq:zT K H q (uP t))(hl:r.length=t.length):LtD K H (n+1) (.ref p) (.ref q) (uU r t):=by
 have at_:∀{r:List Bool} {j:Nat} {x:V},(uP r)[j]?=some x->x=.int ((r.getD j false).toNat:Nat):=fun {r j x} h=>by
  rw[zue] at h
  cases hj:r[j]? with
  | none=>rw[hj] at h;cases h
  | some b=>rw[hj] at h;rw[zup,hj];exact(zuG h).symm
 have z:=LtD.ll (n:=n) (e:=fun j=>r.getD j false==t.getD j false) (f:=fun j=>!r.getD j false&&t.getD j false) hp hq (fun j x y hx hy=>by
  rw[at_ hx,at_ hy]
  have w:=Qg.flat (K:=K) (H:=H) (n:=n) (x:=.int ((r.getD j false).toNat:Nat)) (y:=.int ((t.getD j false).toNat:Nat)) rfl rfl
  rw[SX] at w
  have e:decide (((r.getD j false).toNat:Int)=((t.getD j false).toNat:Int))=(r.getD j false==t.getD j false):=by cases r.getD j false<;>cases t.getD j false<;>rfl
  rw[e] at w
  exact w) (fun j x y hx hy he=>by
  rw[at_ hx,at_ hy]
  have w:=LtD.int (K:=K) (H:=H) (n:=n) (i:=((r.getD j false).toNat:Nat)) (j:=((t.getD j false).toNat:Nat))
  have e:decide (((r.getD j false).toNat:Int)<((t.getD j false).toNat:Int))=(!r.getD j false&&t.getD j false):=by cases r.getD j false<;>cases t.getD j false<;>rfl
  rw[e] at w
  exact w)
 rw[zuc,zuc,<-hl,Nat.min_self] at z
 have w:=zcd hl r.length 0 (by omega)
 rw[<-hl] at w
 rw[w] at z
 exact z
def zcW (r t:List Bool):Bool:=(List.range r.length).all fun j=>r.getD j false==t.getD j false
theorem zkm {K:Frag}{H:Hp}{n:Nat}{p q:Addr}{r t:List Bool}(hp:zT K H p (uP r))(hq:zT K H q (uP t))(hl:r.length=t.length):Qg K H (n+1) (.ref p) (.ref q) (zcW r t):=by
 have at_:∀{r:List Bool} {j:Nat} {x:V},(uP r)[j]?=some x->x=.int ((r.getD j false).toNat:Nat):=fun {r j x} h=>by
  rw[zue] at h
  cases hj:r[j]? with
  | none=>rw[hj] at h;cases h
  | some b=>rw[hj] at h;rw[zup,hj];exact(zuG h).symm
 have z:=Qg.ll (n:=n) (e:=fun j=>r.getD j false==t.getD j false) hp hq (by rw[zuc,zuc,hl]) (fun j x y hx hy=>by
  rw[at_ hx,at_ hy]
  have w:=Qg.flat (K:=K) (H:=H) (n:=n) (x:=.int ((r.getD j false).toNat:Nat)) (y:=.int ((t.getD j false).toNat:Nat)) rfl rfl
  rw[SX] at w
  have e:decide (((r.getD j false).toNat:Int)=((t.getD j false).toNat:Int))=(r.getD j false==t.getD j false):=by cases r.getD j false<;>cases t.getD j false<;>rfl
  rw[e] at w
  exact w)
 rw[zuc] at z
 exact z
def zao (a b:Int)(r t:List Bool):Bool:=if decide (a=b)=true then (if zcW r t=true then decide (2<2) else uU r t) else decide (a<b)
theorem zd1 {a b:Int}{r t:List Bool}(hn:uU r t=false):zao a b r t=decide (a<b):=by
 unfold zao
 rw[hn]
 by_cases hab:a=b
 ·rw[decide_eq_true hab,if_pos rfl,decide_eq_false (show ¬a<b by omega)]
  cases zcW r t<;>rfl
 ·rw[decide_eq_false hab,if_neg zug]
theorem zkn {K:Frag}{H:Hp}{p q rp rq:Addr}{a b:Int}{r t:List Bool}(hp:wK K H p [.int a,.ref rp])(hq:wK K H q [.int b,.ref rq])(hr:zT K H rp (uP r))(ht:zT K H rq (uP t))(hl:r.length=t.length) :
  LtD K H 8 (.ref p) (.ref q) (zao a b r t) :=
 LtD.tt (n:=7) (e:=fun j=>match j with | 0=>decide (a=b) | _=>zcW r t) (f:=fun j=>match j with | 0=>decide (a<b) | _=>uU r t) hp hq (fun j x y hx hy=>by
  match j,hx,hy with
  | 0,hx,hy =>
   cases hx
   cases hy
   have w:=Qg.flat (K:=K) (H:=H) (n:=7) (x:=.int a) (y:=.int b) rfl rfl
   rw[SX] at w
   exact w
  | 1,hx,hy=>cases hx;cases hy;exact zkm hr ht hl) (fun j x y hx hy _=>by
  match j,hx,hy with
  | 0,hx,hy=>cases hx;cases hy;exact LtD.int
  | 1,hx,hy=>cases hx;cases hy;exact zkl hr ht hl)
end Y9
namespace L2
open PySem
theorem zl6:bootBuiltins "abs"=some (.builtin "abs"):=by decide +kernel
end L2
namespace Y9
open PySem L2 zE
def zfj (H:Hp)(p:Addr)(s:Wg):Prop:=H p=some (.tup [.int s.1,.int s.2])
def zhs (s:Wg):Prop:=(-1000000<=s.1/\s.1<=1000000)/\(-1000000<=s.2/\s.2<=1000000)
structure uE (K:Frag)(H:Hp)(l:Addr)(ps:List Addr)(ws:List Wg)(n:Nat):Prop where
 lst:zT K H l (ps.map V.ref)
 at_:Paired (zfj H) ps ws
 len:ws.length=n
 ok:∀s∈ws,zhs s
theorem uE.mono {K:Frag}{H H':Hp}{l:Addr}{ps:List Addr}{ws:List Wg}{n:Nat}(h:uE K H l ps ws n)(g:Same H H'):uE K H' l ps ws n:=⟨g.seq h.lst,xX (fun _ _ r=>xq.of g _ _ r) h.at_,h.len,h.ok⟩
def Zo:Sp:=fun vs H Q _=>∃(p:Addr) (s:Wg),vs=[.ref p]/\zfj H p s/\zhs s/\∀H',Same H H'->Q (.bl true) H'
theorem Je:Mh Zo:=fun vs H Q Q' E h ⟨p,s,e,h1,h2,q⟩=>⟨p,s,e,h1,h2,fun H' g=>h _ _ (q H' g)⟩
def Yh (C:Addr)(K:Frag):Sp:=fun vs H Q _=>∃(b l:Addr) (os:List Str) (rs:List Rm) (F:wO) (ps:List Addr) (ws:List Wg),vs=[.ref b,.ref l]/\yc C H b os rs F/\uE K H l ps ws os.length/\∀H',Same H H'->Q .non H'
def VG (K:Frag):Sp:=fun vs H Q _=>∃(rl l:Addr) (r:List Bool) (ps:List Addr) (ws:List Wg) (n:Nat),vs=[.ref rl,.ref l]/\zT K H rl (uP r)/\r.length=n/\n<=8/\uE K H l ps ws n/\∀H',Same H H'->Q (.int (wg ws r)) H'
def zap (ws:List Wg)(L:List (List Bool))(r:List Bool):Prop:=∃i:Nat,L[i]?=some r/\(∀(j:Nat) t,L[j]?=some t->wg ws r<=wg ws t)/\∀(j:Nat) t,j<i->L[j]?=some t->wg ws r<wg ws t
def Qi (C:Addr)(K:Frag):Sp:=fun vs H Q _=>∃(b l:Addr) (os:List Str) (rs:List Rm) (F:wO) (k:Nat) (ps:List Addr) (ws:List Wg),vs=[.ref b,.int k,.ref l]/\yc C H b os rs F/\k<rs.length/\uE K H l ps ws os.length /\
 (∀H',Same H H'->wJ os.length rs k=[]->Q .non H')/\∀(q rl:Addr) (H':Hp) (r:List Bool),Same H H'->H q=none->H rl=none->zap ws (wJ os.length rs k) r->H' q=some (.tup [.int (wg ws r),.ref rl])->H' rl=some (.lst (uP r))->Q (.ref q) H'
theorem zko {ws:List Wg}{r:List Bool}(h:r.length=ws.length):(wgl ws r).length=r.length:=by
 unfold wgl
 rw[zuc,List.length_zip,h,Nat.min_self]
theorem zl7 {ws:List Wg}{r:List Bool}{i:Nat}{b:Bool}{s:Wg}(h1:r[i]?=some b)(h2:ws[i]?=some s):(wgl ws r)[i]?=some (zE.w2 s b):=by
 unfold wgl
 have e:(r.zip ws)[i]?=some (b,s):=List.getElem?_zip_eq_some.mpr ⟨h1,h2⟩
 rw[zue,e]
 rfl
def Pu:Sp:=fun vs H Q _=>∃(c:Int) (n:Nat),vs=[.int c,.int n]/\n<=8/\∀(l:Addr) (H':Hp) (ps:List Addr) (ws:List Wg),Same H H'->H l=none->H' l=some (.lst (ps.map V.ref))->Paired (zfj H') ps ws->ws.length=n->(∀s∈ws,zhs s)->Q (.ref l) H'
end Y9
namespace L2
open PySem PySem.Spec PyProof.Rows
theorem znx {x:V}{p q:Prop}(h:q):if (!decide (x=x))=true then p else q:=by
 rw[decide_eq_true rfl]
 exact h
theorem zaq {x y:V}{p q:Prop}(e:x=y)(h:q):if (!decide (x=y))=true then p else q:=by
 subst e
 exact znx h
end L2
namespace Y9
open PySem L2 zE
section
variable (C:Addr)(K:Frag)
def Kz:Sp:=fun vs H Q _=>∃(b rl:Addr) (os:List Str) (rs:List Rm) (F:wO) (k:Nat) (r:List Bool),vs=[.ref b,.int (k:Nat),.ref rl]/\yc C H b os rs F/\k<rs.length/\zT K H rl (uP r)/\r.length=os.length/\∀H',Same H H'->Q (.int ((yes rs k (xV r)).toNat:Nat)) H'
def zgE:Sp:=fun vs H Q _=>∃(b:Addr) (os:List Str) (rs:List Rm) (F:wO) (k m:Nat) (r:List Bool),vs=[.ref b,.int (k:Nat),.int (m:Nat)]/\yc C H b os rs F/\k<rs.length/\(wJ os.length rs k)[m]?=some r /\
 ∀(l:Addr) (H':Hp),Same H H'->H l=none->H' l=some (.lst (uP r))->Q (.ref l) H'
end
end Y9
namespace zE
open PySem
def mxr (ρ r:Row)(m:Nat):Row:=fun i=>if i<m then ρ i else r i
theorem Tr {ρ r:Row}{m i:Nat}(h:i<m):mxr ρ r m i=ρ i:=if_pos h
theorem Mu {ρ r:Row}{m i:Nat}(h:m<=i):mxr ρ r m i=r i:=if_neg (by omega)
section
variable {n:Nat}{rs:List Rm}(B:Bk n rs)
include B
theorem zgF {k m:Nat}(hk:k<rs.length)(h:m<=z8 n rs k)(ρ r:Row):yes rs k (mxr ρ r m)=yes rs k r :=
 uz B k k (zus _) hk fun i hi _=>Mu (by omega)
theorem zfk {k j:Nat}(hk:k<rs.length)(h:Reach rs k j):∃ ρ:Row,∀r,yes rs j r=yes rs k (mxr ρ r (z8 n rs j)):=by
 have S:j<rs.length/\∃ ρ:Row,∀r,yes rs j r=yes rs k (mxr ρ r (z8 n rs j)):=by
  refine Reach.closed (S:=fun j=>j<rs.length/\∃ ρ:Row,∀r,yes rs j r=yes rs k (mxr ρ r (z8 n rs j))) ⟨hk,fun _=>false,fun r=>(zgF B hk (zus _) _ r).symm⟩ (fun {m i lo hi} hm e=>?_) h
  obtain⟨hm,ρ,hρ⟩:=hm
  have m2:2<=m:=by
   rcases Nat.lt_or_ge m 2 with z | z
   ·have:m=0\/m=1:=by omega
    rcases this with z | z
    ·rw[z,B.h0] at e;cases e
    ·rw[z,B.h1] at e;cases e
   ·exact z
  obtain⟨i',lo',hi',e',hin,llo,lhi,hne,l1,l2⟩:=B.rm m m2 hm
  rw[e] at e'
  cases e'
  have lm:z8 n rs m=i:=xY B e
  have part:∀(c:Nat) (v:Bool),c<rs.length->i<z8 n rs c->(∀r,yes rs m (put r i v)=yes rs c r)->∃ ρ':Row,∀r,yes rs c r=yes rs k (mxr ρ' r (z8 n rs c)):=fun c v hc hl hy=>by
   refine⟨put ρ i v,fun r=>?_⟩
   rw[<-zgF B hc (zus _) (put ρ i v) r,<-hy,hρ,lm]
   congr 1
   funext p
   by_cases h1:p<i
   ·rw[Tr h1,Tr (by omega)]
    unfold put
    rw[if_neg (by omega)]
   ·rw[Mu (by omega)]
    by_cases h2:p=i
    ·subst h2
     rw[Tr hl]
     unfold put
     rw[if_pos rfl,if_pos rfl]
    ·unfold put
     rw[if_neg h2]
  exact⟨⟨by omega,part lo false (by omega) l1 fun r=>(Zm B e hm r).1⟩,⟨by omega,part hi true (by omega) l2 fun r=>(Zm B e hm r).2⟩⟩
 exact S.2
end
end zE
namespace L2
open PySem PySem.Spec PyProof.Rows PySem.W
theorem zd2 {α:Type}{f:α->V}{g:α->Value}:∀{ts:List α},(∀t∈ts,RelV (f t) (g t))->Vals (ts.map f) (ts.map g)
 | [],_=>.nil
 | t::ts,h=>.cons (h t zuv) (zd2 fun u hu=>h u (zun _ hu))
end L2
namespace zE
open PySem L2
theorem zfl (n:Nat)(R:Row):∀i,i<n->xV ((List.range n).map R) i=R i:=fun i hi=>by
 unfold xV
 rw[zup,zue,List.getElem?_range hi]
 rfl
theorem Yi (R:Row):∀n,(List.range n).map R∈allR n
 | 0=>by simp[allR]
 | n+1=>by
  rw[List.range_succ,zuq,List.map_singleton]
  refine List.mem_flatMap.mpr ⟨_,Yi R n,?_⟩
  cases R n<;>simp
theorem zd3 {n:Nat}{rs:List Rm}(B:Bk n rs){k l:Nat}(hk:k<rs.length)(hl:l<rs.length)(h:∀r∈allR n,yes rs k (xV r)=yes rs l (xV r)):k=l:=by
 refine YD B (max k l) k l ⟨Nat.le_max_left _ _,Nat.le_max_right _ _⟩ hk hl fun R=>?_
 have e:∀j,j<rs.length->yes rs j (xV ((List.range n).map R))=yes rs j R:=fun j hj=>uz B j j (zus _) hj fun i _ hi=>zfl n R i hi
 rw[<-e k hk,<-e l hl]
 exact h _ (Yi R n)
end zE
namespace zE
open PySem Y9
def UW:Nat->Nat->(Row->Bool)->List Bool
 | 0,_,g=>[g fun _=>false]
 | d+1,m,g=>UW d (m+1) (fun r=>g (put r m false))++UW d (m+1) (fun r=>g (put r m true))
theorem Px:∀(d m:Nat) (g:Row->Bool),(UW d m g).length=2^d
 | 0,_,_=>rfl
 | d+1,m,g=>by
  show(UW d (m+1) _++UW d (m+1) _).length=_
  rw[zuk,Px,Px,Nat.pow_succ];omega
theorem ziY (d m:Nat)(g:Row->Bool):(UW (d+1) m g).take (2^d)=UW d (m+1) (fun r=>g (put r m false)):=List.take_left' (Px _ _ _)
theorem ziZ (d m:Nat)(g:Row->Bool):(UW (d+1) m g).drop (2^d)=UW d (m+1) (fun r=>g (put r m true)):=List.drop_left' (Px _ _ _)
def Dep (n m:Nat)(g:Row->Bool):Prop:=∀r r':Row,(∀i,m<=i->i<n->r i=r' i)->g r=g r'
theorem S5 {d m:Nat}{g h:Row->Bool}(e:∀r,g r=h r):UW d m g=UW d m h:=by rw[funext e]
section
variable {n:Nat}{rs:List Rm}(B:Bk n rs)
include B
theorem Jy {j m:Nat}(hj:j<rs.length)(h:m<=z8 n rs j):Dep n m (yes rs j):=fun r r' e=>uz B j j (zus _) hj fun i h1 h2=>e i (by omega) h2
end
def prt (rs:List Rm)(k:Nat)(ρ:Row)(m:Nat):Row->Bool:=fun r=>yes rs k (mxr ρ r m)
theorem zn7 (rs:List Rm)(k:Nat)(ρ:Row)(m:Nat)(v:Bool):(fun r=>prt rs k ρ m (put r m v))=prt rs k (put ρ m v) (m+1):=by
 funext r
 unfold prt
 congr 1
 funext i
 by_cases h1:i<m
 ·rw[Tr h1,Tr (by omega)]
  unfold put
  rw[if_neg (by omega)]
 ·rw[Mu (by omega)]
  by_cases h2:i=m
  ·rw[Tr (by omega)]
   unfold put
   rw[if_pos h2,if_pos h2]
  ·rw[Mu (by omega)]
   unfold put
   rw[if_neg h2]
theorem zce:∀d:Nat,allR (d+1)=(allR d).map (List.cons false)++(allR d).map (List.cons true)
 | 0=>rfl
 | d+1=>by
  have f:∀(b:Bool) (l:List (List Bool)),(l.map (List.cons b)).flatMap (fun r=>[r++[false],r++[true]])=(l.flatMap fun r=>[r++[false],r++[true]]).map (List.cons b):=fun b l=>by
   induction l with
   | nil=>rfl
   | cons x l ih=>rw[zuA,List.flatMap_cons,List.flatMap_cons,ih,zuq];rfl
  exact(congrArg (fun l:List (List Bool)=>l.flatMap fun r=>[r++[false],r++[true]]) (zce d)).trans (by show List.flatMap _ (_++_)=_;rw[List.flatMap_append,f,f];rfl)
theorem zd4:∀(d m:Nat) (g:Row->Bool) , (allR d).map (fun r=>g (fun i=>if i<m then false else r.getD (i-m) false))=UW d m (fun r=>g (fun i=>if i<m then false else r i))
 | 0,m,g=>by
  show [g _]=[g _]
  congr 2
 | d+1,m,g=>by
  have one:∀b:Bool,(allR d).map (fun r=>g (fun i=>if i<m then false else (b::r).getD (i-m) false))=UW d (m+1) (fun r=>g (fun i=>if i<m then false else put r m b i)):=fun b=>by
   have:=zd4 d (m+1) (fun r=>g (put r m b))
   refine Eq.trans (List.map_congr_left fun r _=>?_) (this.trans (S5 fun r=>?_))
   ·show g _=g _
    congr 1
    funext i
    unfold put
    dsimp only
    by_cases h1:i<m
    ·rw[if_pos h1,if_neg (by omega),if_pos (by omega)]
    ·rw[if_neg h1]
     by_cases h2:i=m
     ·rw[if_pos h2,h2,Nat.sub_self];rfl
     ·rw[if_neg h2,if_neg (by omega)]
      obtain⟨x,hx⟩:∃x,i-m=x+1:=⟨i-m-1,by omega⟩
      rw[hx,show i-(m+1)=x by omega];rfl
   ·show g _=g _
    congr 1
    funext i
    unfold put
    dsimp only
    by_cases h1:i<m
    ·rw[if_pos h1,if_neg (by omega),if_pos (by omega)]
    ·rw[if_neg h1]
     by_cases h2:i=m
     ·rw[if_pos h2,if_pos h2]
     ·rw[if_neg h2,if_neg (by omega),if_neg h2]
  rw[zce,zuq,zuN,zuN]
  exact congr (congrArg _ (one false)) (one true)
end zE
namespace zE
section
variable {n:Nat}{rs:List Rm}(B:Bk n rs)
include B
theorem zkp {j m d:Nat}(hj:j<rs.length)(h:m<z8 n rs j):(UW (d+1) m (yes rs j)).take (2^d)=UW d (m+1) (yes rs j)/\(UW (d+1) m (yes rs j)).drop (2^d)=UW d (m+1) (yes rs j):=by
 have e:∀v,UW d (m+1) (fun r=>yes rs j (put r m v))=UW d (m+1) (yes rs j):=fun v=>S5 fun r=>Jy B hj (m:=m+1) h _ _ fun i h1 h2=>by
  unfold put
  rw[if_neg (by omega)]
 exact⟨by rw[ziY,e],by rw[ziZ,e]⟩
theorem zkq {j i lo hi d:Nat}(e:rs[j]?=some (some (i,lo,hi)))(hj:j<rs.length):(UW (d+1) i (yes rs j)).take (2^d)=UW d (i+1) (yes rs lo)/\(UW (d+1) i (yes rs j)).drop (2^d)=UW d (i+1) (yes rs hi):=by
 rw[ziY,ziZ]
 exact⟨S5 fun r=>(Zm B e hj r).1,S5 fun r=>(Zm B e hj r).2⟩
end
end zE
namespace L2
open PySem PySem.Spec PyProof.Rows
def itO (f0:Value)(fl:Bool)(d:Addr)(i n ep:Nat)(u0 u1:Value):Obj:={ cls:=.type "dict_itemiterator", dict:=none,data:=.fields #[f0,.bool fl,.ref d,.int i 0,.int n 0,.int ep 0,u0,u1],slots:=#[] }
section
variable {prog:Program}{w:World}{κ:Type}[DecidableEq κ]{knd:KeyKind prog w κ}{A:Around}{E:Value->Shared->Prop}{s:Shared}
theorem zi0 {a:Addr}{Q:Option Obj->Shared->Prop}(h:Q (s.heap.get? a) s):wpAny (model prog w) A (loadIfAlive a) Q E s:=fun _ _ _=>h
theorem zht {it dd a0:Addr}{i ep:Nat}{fl:Bool}{oA:Obj}{kvs:List (κ×Value)}{k:κ}{v u0 u1:Value}{Q:Option Value->Shared->Prop}
  (hit:s.heap.get? it=some (itO (rawInt a0) fl dd i kvs.length ep u0 u1))(hA:s.heap.get? a0=some oA)(hne:a0≠it)(hm:s.heap.DictAt knd dd kvs ep)(hx:kvs[i]?=some (k,v))
  (hQ:∀key h',knd.is k key=true->h'.get? it=some (itO (rawInt a0) true dd (i+1) kvs.length ep u0 u1)->h'.get? s.heap.objs.size=some { cls:=.type "tuple", data:=.seq #[key,v] }->h'.objs.size=s.heap.objs.size+1 ->
   (∀b o,b≠it->s.heap.get? b=some o->h'.get? b=some o)->Q (some (.ref s.heap.objs.size)) { s with heap:=h' }):wpAny (model prog w) A (pyNext (.ref it)) Q E s:=by
 obtain⟨hp,gg,dr,tk,os⟩:=s
 obtain⟨od,es,hod,hcd,hdd,hk,hpr,hn⟩:=hm
 have hT:Shared.TypeIs ⟨hp,gg,dr,tk,os⟩ (.ref it) "dict_itemiterator" := ⟨_,hit,rfl⟩
 unfold pyNext;refine wpAny_bind (wpAny_attempt (wpAny_callSpecial?_slot (name:=Str.ofString "__next__") hT F.slot_dict_itemiterator_next (wpAny_call_entry F.slot_dict_itemiterator_next hT F.entry_dict_itemiterator_next ?_ (F.args_dict_itemiterator_next_1 _))))
 refine wpAny_bind (wpAny_pure (wpAny_bind (wpAny_bind ?_)))
 first | refine wpAny_bind (wpAny_typeNameOfWhole_itemiter hT (wpAny_pure (wpAny_bind (wpAny_fieldsOf hit rfl ?_)))) | refine wpAny_bind (wpAny_typeNameOf_itemiter hT (wpAny_pure (wpAny_bind (wpAny_fieldsOf hit rfl ?_))))
 have own:Builtin.Dict_items.ownsTuple "dict_itemiterator"=true:=by decide
 simp only[own,if_true];show wpAny _ _ (if (Value.ref dd==Value.none)=true then _ else _) _ _ _
 rw[if_neg (show ¬((Value.ref dd==Value.none)=true) from zug)]
 refine wpAny_bind (wpAny_pure (wpAny_bind (wpAny_dictEntries hod hdd ?_)))
 have sz:es.size=kvs.length:=by rw[<-hpr.length];simp
 rw[if_neg (by rw[sz];simp)];refine wpAny_bind (wpAny_pure (wpAny_bind (wpAny_dictEpoch hod hdd ?_)))
 rw[if_neg (by simp)];refine wpAny_pure ?_
 have lt:i<es.size:=by rw[sz];exact(zuf.mp hx).1
 obtain⟨hkey,hval⟩:=hpr.get? (e:=es[i]) (by simp[lt]) hx
 simp only[show ¬((i:Int)<0) from by omega,if_false,zuO,Array.getElem?_eq_getElem lt]
 refine wpAny_bind ?_
 first | refine wpAny_bind (wpAny_typeNameOfWhole_itemiter hT (wpAny_pure (wpAny_bind (wpAny_isOneOf_itemiter hT ?_)))) | refine wpAny_bind (wpAny_typeNameOf_itemiter hT (wpAny_pure (wpAny_bind (wpAny_isOneOf_itemiter hT ?_))))
 show wpAny _ _ (setField (.ref it) 3 (rawInt ((i:Int)+1))>>=_) _ _ ⟨hp,gg,dr,tk,os⟩
 refine wpAny_bind (wpAny_setField_rec hit (by simp) fun h1 he1 hs1=>?_)
 replace hs1:Heap.SameBut it hp h1:=hs1
 replace he1:h1.get? it=some (itO (rawInt a0) fl dd (i+1) kvs.length ep u0 u1):=by
  have e:((i+1:Nat):Int)=(i:Int)+1:=by omega
  unfold itO;rw[e];simpa [rawInt,itO] using he1
 have hT1:Shared.TypeIs ⟨h1,gg,dr,tk,os⟩ (.ref it) "dict_itemiterator" := ⟨_,he1,rfl⟩
 refine wpAny_bind (wpAny_holding (wpAny_bind (wpAny_isOneOf_itemiter hT1 (wpAny_bind (wpAny_isOneOf_itemiter hT1 ?_)))))
 show wpAny _ _ (Builtin.Dict_items.pairFromOwner (.ref it) 6 es[i].key es[i].val) _ _ ⟨h1,gg,dr,tk,os⟩
 unfold Builtin.Dict_items.pairFromOwner;refine wpAny_bind (wpAny_newTuple ?_)
 have he2:(h1.push { cls:=.type "tuple", data:=.seq #[es[i].key,es[i].val] }).get? it=some (itO (rawInt a0) fl dd (i+1) kvs.length ep u0 u1):=zui _ he1
 have hz1:h1.objs.size=hp.objs.size:=hs1.1
 have hil:it<hp.objs.size:=zuj hit
 have ht2:(h1.push { cls:=.type "tuple", data:=.seq #[es[i].key,es[i].val] }).get? hp.objs.size=some { cls:=.type "tuple", data:=.seq #[es[i].key,es[i].val] }:=by rw[<-hz1];exact zuw _ rfl
 have hz2:(h1.push { cls:=.type "tuple", data:=.seq #[es[i].key,es[i].val] }).objs.size=hp.objs.size+1:=by rw[Heap.size_push,hz1]
 have hk2:∀b o,b≠it->hp.get? b=some o->(h1.push { cls:=.type "tuple", data:=.seq #[es[i].key,es[i].val] }).get? b=some o:=fun b o hb e=>zui _ (hs1.extBut b o hb e)
 show wpAny _ _ (Builtin.Dict_items.ownedTupleIsFree (.ref it)>>=_) _ _ ⟨h1.push { cls:=.type "tuple", data:=.seq #[es[i].key,es[i].val] },gg,dr,tk,os⟩
 rw[hz1]
 generalize h1.push { cls:=.type "tuple", data:=.seq #[es[i].key,es[i].val] }=h2 at he2 ht2 hz2 hk2
 clear he1 hs1 hT1 hz1 h1
 refine wpAny_bind ?_
 unfold Builtin.Dict_items.ownedTupleIsFree
 refine wpAny_bind (wpAny_field he2 rfl (x:=rawInt a0) rfl ?_)
 show wpAny _ _ (loadIfAlive ((a0:Nat):Int).toNat>>=_) _ _ _
 rw[zuO]
 refine wpAny_bind (zi0 ?_)
 show wpAny _ _ (if (h2.get? a0).isNone=true then _ else _) _ _ _
 rw[hk2 a0 oA hne hA,if_neg (by simp)]
 refine wpAny_bind (wpAny_field he2 rfl (x:=.bool fl) rfl ?_)
 have fin:∀h3:Heap,h3.get? it=some (itO (rawInt a0) true dd (i+1) kvs.length ep u0 u1)->h3.get? hp.objs.size=some { cls:=.type "tuple", data:=.seq #[es[i].key,es[i].val] }->h3.objs.size=hp.objs.size+1->(∀b o,b≠it->hp.get? b=some o->h3.get? b=some o)->Q (some (.ref hp.objs.size)) ⟨h3,gg,dr,tk,os⟩:=fun h3 e1 e2 e3 e4=>hQ es[i].key h3 hkey e1 (by rw[<-hval];exact e2) e3 e4
 cases fl with
 | true=>exact wpAny_pure (wpAny_pure (wpAny_pure ⟨_,rfl,wpAny_pure (fin h2 he2 ht2 hz2 hk2)⟩))
 | false =>
  refine wpAny_bind (wpAny_setField_rec he2 (by simp) fun h3 he3 hs3=>?_)
  replace hs3:Heap.SameBut it h2 h3:=hs3
  exact wpAny_pure (wpAny_pure (wpAny_pure ⟨_,rfl,wpAny_pure (fin h3 he3 (hs3.extBut _ _ (Nat.ne_of_gt hil) ht2) (hs3.1.trans hz2) fun b o hb e=>hs3.extBut b o hb (hk2 b o hb e))⟩))
theorem zcg {it dd:Addr}{f0:Value}{fl:Bool}{i ep:Nat}{kvs:List (κ×Value)}{u0 u1:Value}{Q:Option Value->Shared->Prop}(hh:A.handled=none)(hit:s.heap.get? it=some (itO f0 fl dd i kvs.length ep u0 u1))
  (hm:s.heap.DictAt knd dd kvs ep)(hx:kvs[i]?=none)(hQ:∀h',Heap.ExtBut it s.heap h'->Q none { s with heap:=h' }):wpAny (model prog w) A (pyNext (.ref it)) Q E s:=by
 obtain⟨od,es,hod,hcd,hdd,hk,hpr,hn⟩:=hm
 have hT:s.TypeIs (.ref it) "dict_itemiterator" := ⟨_,hit,rfl⟩
 unfold pyNext;refine wpAny_bind (wpAny_attempt (wpAny_callSpecial?_slot (name:=Str.ofString "__next__") hT F.slot_dict_itemiterator_next (wpAny_call_entry F.slot_dict_itemiterator_next hT F.entry_dict_itemiterator_next ?_ (F.args_dict_itemiterator_next_1 _))))
 refine wpAny_bind (wpAny_pure (wpAny_bind (wpAny_bind ?_)))
 first | refine wpAny_bind (wpAny_typeNameOfWhole_itemiter hT (wpAny_pure (wpAny_bind (wpAny_fieldsOf hit rfl ?_)))) | refine wpAny_bind (wpAny_typeNameOf_itemiter hT (wpAny_pure (wpAny_bind (wpAny_fieldsOf hit rfl ?_))))
 have own:Builtin.Dict_items.ownsTuple "dict_itemiterator"=true:=by decide
 simp only[own,if_true];show wpAny _ _ (if (Value.ref dd==Value.none)=true then _ else _) _ _ _
 rw[if_neg (show ¬((Value.ref dd==Value.none)=true) from zug)]
 refine wpAny_bind (wpAny_pure (wpAny_bind (wpAny_dictEntries hod hdd ?_)))
 have sz:es.size=kvs.length:=by rw[<-hpr.length];simp
 rw[if_neg (by rw[sz];simp)];refine wpAny_bind (wpAny_pure (wpAny_bind (wpAny_dictEpoch hod hdd ?_)))
 rw[if_neg (by simp)];refine wpAny_pure ?_
 have ge:es.size<=i:=by rw[sz];simpa using hx
 simp only[show ¬((i:Int)<0) from by omega,if_false,zuO,Array.getElem?_eq_none ge]
 refine wpAny_bind ?_
 first | refine wpAny_bind (wpAny_typeNameOfWhole_itemiter hT (wpAny_pure ?_)) | refine wpAny_bind (wpAny_typeNameOf_itemiter hT (wpAny_pure ?_))
 show wpAny _ _ (setField (.ref it) 2 .none>>=_) _ _ _
 refine wpAny_bind (wpAny_setField hit rfl (by simp) ?_);show wpAny _ _ (newExc (.type "StopIteration") []>>=_) _ _ _
 refine wpAny_bind ?_
 simp only[newExc,newTuple];refine wpAny_bind (wpAny_newObj_type ?_ (by size_fits))
 refine wpAny_bind (m:=firstArgMember _ _) (wpAny_of_eq (a:=Value.none) (by first | rfl | (simp only[firstArgMember];rfl)) (wpAny_newObj_type ?_ (by size_fits)))
 simp only[raiseNew];refine wpAny_bind (wpAny_handled ?_)
 rw[show A.in1.handled=none from hh];refine wpAny_bind (wpAny_pure (wpAny_throw ?_))
 refine wpAny_bind (wpAny_isInstance (T := "StopIteration") (b:=true) ⟨_,zuw _ rfl,rfl⟩ isSubtype_stop ?_)
 exact wpAny_pure (hQ _ (((Heap.SameBut.update ..).extBut.push _).push _))
end
structure Itm {prog:Program}{w:World}{κ:Type}[DecidableEq κ](knd:KeyKind prog w κ)(kvs:List (κ×Value))(d it base ep i:Nat)(h:Heap):Prop where
 dict:h.DictAt knd d kvs ep
 size:h.objs.size=base+i
 tups:∀j,j<i->∃k v key,kvs[j]?=some (k,v)/\knd.is k key=true/\h.get? (base+j)=some { cls:=.type "tuple", data:=.seq #[key,v] }
 here:(i=0/\∃u0 u1,h.get? it=some (itO .none false d 0 kvs.length ep u0 u1))\/∃fl u0 u1,0<i/\h.get? it=some (itO (rawInt base) fl d i kvs.length ep u0 u1)
def znz (acc:Array Value)(base i:Nat):Prop:=acc=((List.range i).map fun j=>Value.ref (base+j)).toArray
section
variable {prog:Program}{w:World}{κ:Type}[DecidableEq κ]{knd:KeyKind prog w κ}{A:Around}{E:Value->Shared->Prop}{s:Shared}
theorem zi1 {d it base ep i:Nat}{kvs:List (κ×Value)}{Q:Option Value->Shared->Prop}(I:Itm knd kvs d it base ep i s.heap)(hi:i<kvs.length)(hb:it<base)(hd:d≠it)
  (hQ:∀h',Itm knd kvs d it base ep (i+1) h'->(∀b o,b≠it->s.heap.get? b=some o->h'.get? b=some o)->Q (some (.ref (base+i))) { s with heap:=h' }):wpAny (model prog w) A (pyNext (.ref it)) Q E s:=by
 obtain⟨⟨k,v⟩,hx⟩:∃x,kvs[i]?=some x:=⟨_,zud hi⟩
 have go:∀key (h':Heap),knd.is k key=true->(∃fl u0 u1,h'.get? it=some (itO (rawInt base) fl d (i+1) kvs.length ep u0 u1))->h'.get? s.heap.objs.size=some { cls:=.type "tuple", data:=.seq #[key,v] }->h'.objs.size=s.heap.objs.size+1->(∀b o,b≠it->s.heap.get? b=some o->h'.get? b=some o)->Q (some (.ref s.heap.objs.size)) { s with heap:=h' }:=fun key h' hk ⟨fl,u0,u1,e1⟩ e2 e3 e4=>by
  rw[I.size]
  refine hQ h' ⟨?_,by rw[e3,I.size,Nat.add_assoc],fun j hj=>?_,.inr ⟨fl,u0,u1,Nat.succ_pos _,e1⟩⟩ e4
  ·obtain⟨o,es,a1,a2⟩:=I.dict
   exact⟨o,es,e4 d o hd a1,a2⟩
  ·rcases Nat.lt_or_ge j i with z | z
   ·obtain⟨k2,v2,key2,b1,b2,b3⟩:=I.tups j z
    exact⟨k2,v2,key2,b1,b2,e4 (base+j) _ (show base+j≠it by omega) b3⟩
   ·obtain rfl:j=i:=by omega
    exact⟨k,v,key,hx,hk,by rw[<-I.size];exact e2⟩
 rcases I.here with ⟨rfl,u0,u1,e⟩ | ⟨fl,u0,u1,ip,e⟩
 ·refine wpAny_pyNext_items_item (ok:=u0) (ov:=u1) e I.dict hx fun key h' a1 a2 a3 a4 a5=>go key h' a1 ⟨false,key,v,?_⟩ a3 a4 a5
  have:s.heap.objs.size=base:=I.size
  rw[this] at a2
  exact a2
 ·obtain⟨_,_,_,_,_,hA⟩:=I.tups 0 ip
  exact zht (a0:=base) e hA (Nat.ne_of_gt hb) I.dict hx fun key h' a1 a2 a3 a4 a5=>go key h' a1 ⟨true,u0,u1,a2⟩ a3 a4 a5
theorem zi2 {d it base ep:Nat}{kvs:List (κ×Value)}{Q:Option Value->Shared->Prop}(hh:A.handled=none)(I:Itm knd kvs d it base ep kvs.length s.heap)(hQ:∀h',Heap.ExtBut it s.heap h'->Q none { s with heap:=h' }):wpAny (model prog w) A (pyNext (.ref it)) Q E s:=by
 have hx:kvs[kvs.length]?=none:=zuL (zus _)
 rcases I.here with ⟨z,u0,u1,e⟩ | ⟨fl,u0,u1,ip,e⟩
 ·refine zcg (u0:=u0) (u1:=u1) (f0:=.none) (fl:=false) (i:=kvs.length) hh ?_ I.dict hx hQ
  rw[z];rw[z] at e;exact e
 ·exact zcg hh e I.dict hx hQ
theorem zfm {R:Result->Shared->Prop}{S d it base ep:Nat}{kvs:List (κ×Value)}{res:Value}(hh:A.handled=none)(hn:kvs.length<=sizeLine)(hS:S<base)(hit:it<base)(hSi:S≠it)(hSd:S≠d)(hd:d≠it):∀(m i:Nat) (s:Shared) (acc:Array Value) (c:Nat),kvs.length-i=m->i<=kvs.length->Itm knd kvs d it base ep i s.heap ->
  s.heap.get? S=some { cls:=.type "list", dict:=none,data:=.seq acc c,slots:=#[] }->znz acc base i ->
  (∀h' c',(∀b o,b≠S->b≠it->s.heap.get? b=some o->h'.get? b=some o)->(∀j,j<kvs.length->∃k v key,kvs[j]?=some (k,v)/\knd.is k key=true/\h'.get? (base+j)=some { cls:=.type "tuple", data:=.seq #[key,v] }) ->
   h'.get? S=some { cls:=.type "list", dict:=none,data:=.seq ((List.range kvs.length).map fun j=>Value.ref (base+j)).toArray c',slots:=#[] }->R (.ok (.ret res)) { s with heap:=h' }) ->
  codeAny (model prog w) A (.builtin "list.extend.loop" ⟨[.ref S,.ref it,res],[]⟩) R s:=by
 intro m
 induction m with
 | zero =>
  intro i s acc c hk hi I hL hacc hR
  obtain rfl:i=kvs.length:=by omega
  refine codeAny_builtin F.entry_extend_loop ?_
  rw[Around.under_plainId F.plain_extend_loop _];show wpAny _ A.in1 (pyNext (.ref it)>>=_) _ _ s
  refine wpAny_bind (zi2 hh I fun h' e=>?_)
  refine wpAny_pure (hR h' c (fun b o _ hb z=>e b o hb z) (fun j hj=>?_) ?_)
  ·obtain⟨k,v,key,b1,b2,b3⟩:=I.tups j hj
   exact⟨k,v,key,b1,b2,e (base+j) _ (show base+j≠it by omega) b3⟩
  ·have:=e S _ hSi hL
   rw[hacc] at this
   exact this
 | succ m ih =>
  intro i s acc c hk hi I hL hacc hR
  have hlt:i<kvs.length:=by omega
  refine codeAny_builtin F.entry_extend_loop ?_
  rw[Around.under_plainId F.plain_extend_loop _];show wpAny _ A.in1 (pyNext (.ref it)>>=_) _ _ s
  refine wpAny_bind (zi1 I hlt hit hd fun h' I' e=>?_)
  have hL':=e S _ hSi hL
  have ac:acc.size=i:=by rw[hacc];simp
  show wpAny _ A.in1 (updateSeq S (·.push (.ref (base+i)))>>=_) _ _ _
  refine wpAny_bind ?_
  have oth:∀b o,b≠S->h'.get? b=some o->(h'.update S (Obj.mapSeq (·.push (.ref (base+i))))).get? b=some o:=fun b o hb z=>(Heap.get?_update_other _ _ (Ne.symm hb)).trans z
  refine wpAny_updateSeq hL' rfl (wpAny_pure ⟨plainId_quiet F.plain_extend_loop _,ih (i+1) _ (acc.push (.ref (base+i))) _ (by omega) hlt ?_ (Heap.get?_update_self _ hL' rfl) ?_ fun h2 c2 e2 t2 l2=>?_⟩) (by omega) (by show(acc.push _).size<=sizeLine+1;rw[Array.size_push];omega)
  ·refine⟨?_,by rw[Heap.size_update];exact I'.size,fun j hj=>?_,?_⟩
   ·obtain⟨o,es,a1,a2⟩:=I'.dict
    exact⟨o,es,oth d o (Ne.symm hSd) a1,a2⟩
   ·obtain⟨k,v,key,b1,b2,b3⟩:=I'.tups j hj
    exact⟨k,v,key,b1,b2,oth (base+j) _ (show base+j≠S by omega) b3⟩
   ·rcases I'.here with ⟨z,u0,u1,e⟩ | ⟨fl,u0,u1,ip,e⟩
    ·exact .inl ⟨z,u0,u1,oth it _ (Ne.symm hSi) e⟩
    ·exact .inr ⟨fl,u0,u1,ip,oth it _ (Ne.symm hSi) e⟩
  ·show acc.push _=_
   rw[hacc,List.range_succ,zuq]
   simp
  ·exact hR h2 c2 (fun b o hb hb2 z=>e2 b o hb hb2 (oth b o hb (e b o hb2 z))) t2 l2
theorem zfn {r:Addr}{Q:Bool->Shared->Prop}(hT:s.TypeIs (.ref r) "dict_items")(h:Q false s):wpAny (model prog w) A (Builtin.List.listLengthHint (.ref r)) Q E s:=by
 unfold Builtin.List.listLengthHint;refine wpAny_bind (wpAny_specialOf hT PySem.F.slot_dict_items_len.lookup ?_)
 generalize hid:("dict_items.__len__" : String)=id0
 wp_delta
 rw[show splitId id0=some ("dict_items", "__len__") from by subst hid;decide +kernel]
 subst hid
 refine wpAny_bind (wpAny_isInstance (T := "dict_items") (b:=true) hT (by rw[isSubtype_type];kernel_rfl) (wpAny_ite_split (fun hab=>absurd hab (by decide)) (fun _=>wpAny_ite_split (fun _=>?_) (fun hab=>absurd (by decide +kernel) hab))))
 exact wpAny_bind (wpAny_typeOf hT (wpAny_pure h))
theorem zcX {R:Result->Shared->Prop}{S r d ep c0:Nat}{kvs:List (κ×Value)}{res:Value}(hh:A.handled=none)(hn:kvs.length<=sizeLine)(hv:s.heap.IsItemsView r d)(hm:s.heap.DictAt knd d kvs ep)(hSr:S≠r)(hSd:S≠d)
  (hS:s.heap.get? S=some { cls:=.type "list", data:=.seq #[] c0 })
  (hR:∀h' c' base,s.heap.objs.size<base->(∀b o,b≠S->s.heap.get? b=some o->h'.get? b=some o)->(∀j,j<kvs.length->∃k v key,kvs[j]?=some (k,v)/\knd.is k key=true/\h'.get? (base+j)=some { cls:=.type "tuple", data:=.seq #[key,v] }) ->
   h'.get? S=some { cls:=.type "list", dict:=none,data:=.seq ((List.range kvs.length).map fun j=>Value.ref (base+j)).toArray c',slots:=#[] }->R (.ok (.ret res)) { s with heap:=h' }) :
  wpAny (model prog w) A.in1 (Builtin.List.listExtendWith (.ref S) (.ref r) res)
   (fun fin s'=>match fin with | .done f=>R (.ok f) s' | .again c'=>c'.quiet=true/\codeAny (model prog w) A c' R s') (fun e s'=>R (.error e) s') s:=by
 have zS:S<s.heap.objs.size:=zuj hS
 obtain⟨od,es,ho,rest⟩:=id hm
 have zd:d<s.heap.objs.size:=zuj ho
 unfold Builtin.List.listExtendWith;refine wpAny_bind (wpAny_typeOf (T := "dict_items") hv.typeIs ?_)
 have h1:Builtin.List.listSameRef (.ref S) (.ref r)=false:=by simp[Builtin.List.listSameRef,hSr]
 simp only[h1,show(Value.type "dict_items" == Value.type "list")=false from rfl,show(Value.type "dict_items" == Value.type "tuple")=false from rfl,Bool.or_false,Bool.false_eq_true,if_false]
 refine wpAny_bind (wpAny_pyIter_items hv hm ?_)
 have itx:(s.heap.push (itO .none false d 0 kvs.length ep .none .none)).get? s.heap.objs.size=some (itO .none false d 0 kvs.length ep .none .none):=zuw _ rfl
 have hL:=zui (itO .none false d 0 kvs.length ep .none .none) hS
 have keep:∀b o,s.heap.get? b=some o->(s.heap.push (itO .none false d 0 kvs.length ep .none .none)).get? b=some o:=fun b o e=>zui _ e
 have sz:(s.heap.push (itO .none false d 0 kvs.length ep .none .none)).objs.size=s.heap.objs.size+1:=Heap.size_push ..
 have hv1:(s.heap.push (itO .none false d 0 kvs.length ep .none .none)).IsItemsView r d:=by
  obtain⟨o,e1,e2⟩:=hv
  exact⟨o,keep _ _ e1,e2⟩
 show wpAny _ _ _ _ _ { s with heap:=s.heap.push (itO .none false d 0 kvs.length ep .none .none) }
 have hm1:(s.heap.push (itO .none false d 0 kvs.length ep .none .none)).DictAt knd d kvs ep:=⟨od,es,keep _ _ ho,rest⟩
 generalize s.heap.push (itO .none false d 0 kvs.length ep .none .none)=h2 at itx hL keep sz hv1 hm1
 have key:∀(h:Heap) (c1:Nat),h.objs.size=s.heap.objs.size+1->(∀b o,b≠S->h2.get? b=some o->h.get? b=some o)->h.get? S=some { cls:=.type "list", data:=.seq #[] c1 }->codeAny (model prog w) A (.builtin "list.extend.loop" ⟨[.ref S,.ref s.heap.objs.size,res],[]⟩) R { s with heap:=h }:=fun h c1 hz hk hS1=>by
  refine zfm (knd:=knd) (d:=d) (base:=s.heap.objs.size+1) (ep:=ep) hh hn (Nat.lt_succ_of_lt zS) (Nat.lt_succ_self _) (zur zS) hSd (zur zd) kvs.length 0 _ #[] c1 rfl (zuy _) ⟨?_,hz,fun j hj=>absurd hj (Nat.not_lt_zero _),.inl ⟨rfl,.none,.none,hk _ _ (Nat.ne_of_gt zS) itx⟩⟩ hS1 rfl fun h' c' e t l=>?_
  ·obtain⟨o,es',a1,a2⟩:=hm1
   exact⟨o,es',hk d o (Ne.symm hSd) a1,a2⟩
  ·exact hR h' c' (s.heap.objs.size+1) (Nat.lt_succ_self _) (fun b o hb z=>e b o hb (zur (zuj z)) (hk b o hb (keep b o z))) t l
 refine wpAny_bind (wpAny_holding (zfn (s:={ s with heap:=h2 }) hv1.typeIs (wpAny_ite_split (fun _=>?_) (fun _=>wpAny_pure ⟨plainId_quiet PySem.F.plain_extend_loop _,key h2 c0 sz (fun b o _ e=>e) hL⟩))))
 refine wpAny_bind (wpAny_rule (wpAny_bind ?_))
 show wpAny _ _ (updateSeq S (·.push .none)>>=fun _=>updateSeq S (·.pop)) _ _ _
 refine wpAny_bind (wpAny_updateSeq hL rfl ?_)
 have hS2:=Heap.get?_update_self (Obj.mapSeq (·.push Value.none)) hL rfl
 refine wpAny_updateSeq (hz:=by seq_fits) hS2 rfl ?_
 have hS3:=Heap.get?_update_self (Obj.mapSeq (·.pop)) hS2 rfl
 refine wpAny_pure ⟨plainId_quiet PySem.F.plain_extend_loop _,key _ _ ?_ (fun b o hb e=>?_) hS3⟩
 ·rw[Heap.size_update,Heap.size_update];exact sz
 ·exact(Heap.get?_update_other _ _ (Ne.symm hb)).trans ((Heap.get?_update_other _ _ (Ne.symm hb)).trans e)
theorem zfo {Q:Value->Shared->Prop}{r d ep:Nat}{kvs:List (κ×Value)}(hh:A.handled=none)(hn:kvs.length<=sizeLine)(hv:s.heap.IsItemsView r d)(hm:s.heap.DictAt knd d kvs ep)
  (hQ:∀h' c' base,s.heap.objs.size<base->(∀b o,s.heap.get? b=some o->h'.get? b=some o)->(∀j,j<kvs.length->∃k v key,kvs[j]?=some (k,v)/\knd.is k key=true/\h'.get? (base+j)=some { cls:=.type "tuple", data:=.seq #[key,v] }) ->
   h'.get? s.heap.objs.size=some { cls:=.type "list", dict:=none,data:=.seq ((List.range kvs.length).map fun j=>Value.ref (base+j)).toArray c',slots:=#[] }->Q (.ref s.heap.objs.size) { s with heap:=h' }) :
  wpAny (model prog w) A (call (.type "list") [.ref r]) Q E s:=by
 refine callType_codes (Q₁:=fun obj s₁=>obj=.ref s.heap.objs.size/\s₁={ s with heap:=s.heap.push { cls:=.type "list", data:=.seq #[] } }) PySem.F.called_list (PySem.F.typeCall_list_1 _) PySem.F.entry_list_init (code_list_new _ ⟨rfl,rfl⟩) fun obj s₁ h₁=>?_
 obtain⟨rfl,rfl⟩:=h₁
 have hL:(s.heap.push { cls:=.type "list", data:=.seq #[] }).get? s.heap.objs.size=some { cls:=.type "list", data:=.seq #[] }:=zuw _ rfl
 have keep:∀b o,s.heap.get? b=some o->(s.heap.push { cls:=.type "list", data:=.seq #[] }).get? b=some o:=fun b o e=>zui _ e
 obtain⟨ov,hov,rv⟩:=hv
 obtain⟨od,es,hod,rd⟩:=hm
 have zr:r<s.heap.objs.size:=zuj hov
 have zd:d<s.heap.objs.size:=zuj hod
 refine⟨⟨_,hL,rfl⟩,PySem.F.args_list_init_2 _ _,?_⟩
 show wpAny _ _ (do let old <-Builtin.List.listItems (.ref s.heap.objs.size);Builtin.List.listUpdate (.ref s.heap.objs.size) (fun _=>#[]);letGo old.toList.reverse;Builtin.List.listExtendWith (.ref s.heap.objs.size) (.ref r) .none) _ _ _
 refine wpAny_bind ?_
 unfold Builtin.List.listItems;refine wpAny_bind (wpAny_seqItems hL rfl (wpAny_pure ?_))
 show wpAny _ _ (updateSeq s.heap.objs.size (fun _=>#[])>>=fun _=>letGo (#[]:Array Value).toList.reverse>>=fun _=>Builtin.List.listExtendWith (.ref s.heap.objs.size) (.ref r) .none) _ _ _
 refine wpAny_bind (wpAny_updateSeq hL rfl ?_)
 have hS2:=Heap.get?_update_self (Obj.mapSeq (fun _=>(#[]:Array Value))) hL rfl
 have oth:∀b o,s.heap.get? b=some o->((s.heap.push { cls:=.type "list", data:=.seq #[] }).update s.heap.objs.size (Obj.mapSeq (fun _=>(#[]:Array Value)))).get? b=some o:=fun b o e=>(Heap.get?_update_other _ _ (Nat.ne_of_gt (zuj e))).trans (keep b o e)
 refine wpAny_bind (wpAny_letGo ?_)
 refine zcX (A:=A.in1) (knd:=knd) (d:=d) (ep:=ep) hh hn ⟨ov,oth _ _ hov,rv⟩ ⟨od,es,oth _ _ hod,rd⟩ (Nat.ne_of_gt zr) (Nat.ne_of_gt zd) hS2 (fun h' c' base hb e t l=>?_)
 exact⟨rfl,hQ h' c' base (by rw[Heap.size_update,Heap.size_push] at hb;omega) (fun b o z=>e b o (zur (zuj z)) (oth b o z)) t l⟩
end
theorem zkr {P:Program}{w:World}{k:Key}{u:Value}(h:(yQ P w).is k u=true):RelV (kV k) u:=by
 rw[zeN] at h
 rcases xH h with ⟨i,t,rfl,rfl⟩ | ⟨x,t,rfl,rfl⟩
 ·exact⟨t,rfl⟩
 ·exact⟨t,rfl⟩
theorem zcY {α β:Type}{R:α->β->Prop}:∀{xs:List α} {ys:List β},xs.length=ys.length->(∀(j:Nat) x y,xs[j]?=some x->ys[j]?=some y->R x y)->Paired R xs ys
 | [],[],_,_=>.nil
 | [],_::_,e,_=>by cases e
 | _::_,[],e,_=>by cases e
 | x::xs,y::ys,e,h=>.cons (h 0 x y rfl rfl) (zcY (Nat.succ.inj e) fun j a b h1 h2=>h (j+1) a b h1 h2)
section
variable {X:Cx}
theorem Inv.many {pins:List (Addr×Obj)}{σ:St}{H H':Hp}{s:Shared}{h':Heap}(I:Inv X pins σ H s)(k:∀b u,s.heap.get? b=some u->h'.get? b=some u)(old:∀b,b<s.heap.objs.size->H' b=H b)(new:∀a o,s.heap.objs.size<=a->H' a=some o->wL X.prog X.w H' h' a o) :
  Inv X pins σ H' { s with heap:=h' }:=by
 have sm:∀a o,H a=some o->H' a=some o:=fun a o e=>by rw[old a (I.hok.lt e)];exact e
 refine I.un (t':=s.toks) ⟨fun b u q _ _ _=>k b u q,fun b u q _ _ _=>⟨u.slots,k b u q⟩,fun b u q n _=>by rw[old b (zuj q)];exact n,fun b u q _=>⟨u,k b u q⟩,fun b xs q=>sm _ _ q,fun b u xs q=>sm _ _ q,fun b ps q=>⟨#[],by rw[sm _ _ q];simp⟩⟩ fun b u e=>?_
 rcases Nat.lt_or_ge b s.heap.objs.size with z | z
 ·rw[old b z] at e
  exact(I.hok b u e).stay (fun c v _ q=>k c v q) (fun c q=>sm _ _ q) fun c xs q=>sm _ _ q
 ·exact new b u z e
def tLI (to:TE):TE:=fun σ H Q=>to σ H fun x H1=>∃(d:Addr) (kvs:List (Key×V)),x=.ref d/\H1 d=some (.dK kvs)/\∀(l:Addr) (ts:List Addr) (H2:Hp),Same H1 H2->H1 l=none->Paired (fun t (kv:Key×V)=>H1 t=none/\H2 t=some (.tup [kV kv.1,kv.2])) ts kvs->H2 l=some (.lst (ts.map V.ref))->Q (.ref l) H2
theorem Py {o:Expr}{to:TE}{p apos cpos pos:Pos}(hc:X.calm=true)(hg:Gl X "list")(hm:X.mg "list"=none)(ho:PE X o to)
  (hbase:attributeBase o "items" X.env (eval o X.env)=eval o X.env:=by rfl)(hline:(apos.endLine==cpos.line)=true:=by rfl)
  (hs2:starEach [.Call (.Attribute o "items" apos) [] [] cpos] X.env=[(false,eval (.Call (.Attribute o "items" apos) [] [] cpos) X.env)]:=by rfl) :
  PE X (.Call (.Name "list" p) [.Call (.Attribute o "items" apos) [] [] cpos] [] pos) (tLI to):=by
 intro pins s σ H Q I h
 refine wpAny_Call_Name_kw (Vr I hg hm zcI ?_ (by decide) (by decide))
 refine PyProof.Rows.callWith_type1 ?_ hs2 rfl
 rw[hs2]
 show wpAny _ _ (spliced ((false,eval (.Call (.Attribute o "items" apos) [] [] cpos) X.env)::[])) _ _ s
 refine Calls.spliced_cons ?_
 refine wpAny_Call_method0_late hbase hline (wM (ho pins s σ H _ I h) fun v s1 ⟨x,H1,I1,r1,q1⟩=>?_)
 obtain⟨d,kvs,rfl,hd,q⟩:=q1
 obtain⟨h1,h2⟩:=ze5 (T := "dict") I1 r1 (.inr (.inr (.inl ⟨rfl,.inl ⟨kvs,hd⟩⟩)))
 cases r1
 obtain⟨hz,lo,vs,rv,hD⟩:=(show kvs.length<=sizeLine/\(d==sysModules)=false/\∃vs,KV kvs vs/\s1.heap.DictOf (yQ X.prog X.w) d vs from I1.hok d _ hd)
 refine⟨"dict", "dict.items", PySem.F.plainAttrs_dict,PySem.F.slot_dict_items,PySem.F.type_dict_items,h1,h2,Calls.callWith_builtin rfl (PySem.evalArgs_none ?_)⟩
 refine call_meetsIn PySem.F.slot_dict_items hD.typeIs PySem.F.entry_dict_items (PySem.F.args_dict_items_1 _) (meets_dict_items (yQ X.prog X.w) d lo) ⟨⟨vs,hD⟩,Calls.spliced_nil ?_⟩
 have I2:=I1.kept (t':=s1.toks) (h':=s1.heap.push { cls:=.type "dict_items", data:=.fields #[.ref d] }) fun b o e=>zui _ e
 obtain⟨hz2,lo2,vs2,rv2,hD2⟩:=(show kvs.length<=sizeLine/\(d==sysModules)=false/\∃vs,KV kvs vs/\(s1.heap.push { cls:=.type "dict_items", data:=.fields #[.ref d] }).DictOf (yQ X.prog X.w) d vs from I2.hok d _ hd)
 obtain⟨ep2,znA⟩:=hD2.dictAt
 have hl2:kvs.length=vs2.length:=Paired.length rv2
 have hv2:(s1.heap.push { cls:=.type "dict_items", data:=.fields #[.ref d] }).IsItemsView s1.heap.objs.size d:=⟨_,zuw _ rfl,rfl,rfl⟩
 show wpAny _ _ _ _ _ { s1 with heap:=s1.heap.push { cls:=.type "dict_items", data:=.fields #[.ref d] } }
 have sz2:s1.heap.objs.size<(s1.heap.push { cls:=.type "dict_items", data:=.fields #[.ref d] }).objs.size:=by rw[Heap.size_push];exact Nat.lt_succ_self _
 have hI2:Inv X pins σ H1 { s1 with heap:=s1.heap.push { cls:=.type "dict_items", data:=.fields #[.ref d] } }:=I2
 generalize s1.heap.push { cls:=.type "dict_items", data:=.fields #[.ref d] }=hp2 at hI2 znA hv2 hD2 sz2
 refine zfo (s:={ s1 with heap:=hp2 }) (knd:=yQ X.prog X.w) (I1.ok.hd hc) (by omega) hv2 znA fun h' c' base hb kp tu hL=>?_
 have hb':hp2.objs.size<base:=hb
 let H2:Hp:=fun a=>if a=hp2.objs.size then some (.lst (((List.range kvs.length).map (base+·)).map V.ref)) else if base<=a then (match kvs[a-base]? with | some kv=>some (.tup [kV kv.1,kv.2]) | none=>H1 a) else H1 a
 have hl:H2 hp2.objs.size=some (.lst (((List.range kvs.length).map (base+·)).map V.ref)):=if_pos rfl
 have ht:∀j kv,kvs[j]?=some kv->H2 (base+j)=some (.tup [kV kv.1,kv.2]):=fun j kv e=>by
  show(if base+j=hp2.objs.size then _ else _)=_
  rw[if_neg (by omega),if_pos (zuM _ _),show base+j-base=j by omega,e]
 have old:∀b,b<hp2.objs.size->H2 b=H1 b:=fun b hb2=>by
  show(if b=hp2.objs.size then _ else _)=_
  rw[if_neg (zur hb2),if_neg (by omega)]
 have fr:∀a,hp2.objs.size<=a->H1 a=none:=fun a ha=>hI2.hok.fresh ha
 refine⟨.ref hp2.objs.size,H2,hI2.many kp old fun a o ha e=>?_,rfl,q _ ((List.range kvs.length).map (base+·)) H2 (fun a o e=>by rw[old a (hI2.hok.lt e)];exact e) (fr _ (zus _)) ?_ hl⟩
 ·have e':(if a=hp2.objs.size then some (HO.lst (((List.range kvs.length).map (base+·)).map V.ref)) else if base<=a then (match kvs[a-base]? with | some kv=>some (.tup [kV kv.1,kv.2]) | none=>H1 a) else H1 a)=some o:=e
  by_cases z:a=hp2.objs.size
  ·rw[if_pos z] at e'
   cases e'
   subst z
   refine⟨by simp;exact hz,(List.range kvs.length).map fun j=>Value.ref (base+j),c',?_,by rw[hl2];exact hL⟩
   rw[zuN]
   exact zd2 fun j _=>rfl
  ·rw[if_neg z] at e'
   by_cases z2:base<=a
   ·rw[if_pos z2] at e'
    cases hx:kvs[a-base]? with
    | none=>rw[hx] at e';rw[show H1 a=none from fr a ha] at e';cases e'
    | some kv =>
     rw[hx] at e'
     cases e'
     obtain⟨k,v,key,b1,b2,b3⟩:=tu (a-base) (by rw[<-hl2];exact(zuf.mp hx).1)
     obtain⟨y,hy,e1,e2⟩:=Pg rv2 b1
     rw[hx] at hy
     cases hy
     rw[show base+(a-base)=a by omega] at b3
     refine⟨by show 2<=sizeLine;decide,[key,v],.cons (by rw[e1];exact zkr b2) (.cons e2 .nil),?_⟩
     exact⟨_,b3,rfl,_,rfl⟩
   ·rw[if_neg z2] at e'
    rw[show H1 a=none from fr a ha] at e'
    cases e'
 ·refine zcY (by simp) fun j x y h1 h2=>?_
  rw[zue] at h1
  cases hr:(List.range kvs.length)[j]? with
  | none=>rw[hr] at h1;cases h1
  | some m =>
   rw[hr] at h1
   cases h1
   obtain rfl:m=j:=by have:=zuf.mp hr;obtain⟨_,e⟩:=this;rw[List.getElem_range] at e;exact e.symm
   exact⟨fr (base+m) (show hp2.objs.size<=base+m by omega),ht m y h2⟩
end
end L2
namespace zE
def cn (n:Nat)(rs:List Rm)(j:Nat):Nat:=(UW (n-z8 n rs j) (z8 n rs j) (yes rs j)).count true
theorem count_map {α:Type}(f:α->Bool):∀l:List α,(l.map f).count true=(l.filter f).length
 | []=>rfl
 | x::l=>by
  rw[zuA,List.filter_cons,List.count_cons,count_map f l]
  cases f x<;>simp
theorem zar {l:List Bool}(k:Nat):l.count true=(l.take k).count true+(l.drop k).count true:=by
 rw[<-List.count_append,List.take_append_drop]
section
variable {n:Nat}{rs:List Rm}(B:Bk n rs)
include B
theorem zk5 {j:Nat}(hj:j<rs.length):cn n rs j<=2^n:=by
 unfold cn
 refine zux List.count_le_length ?_
 rw[Px]
 exact zuH (by decide) (Nat.sub_le _ _)
theorem zgG {j:Nat}(hj:j<rs.length):∀(e m d:Nat),m+e<=z8 n rs j->(UW (e+d) m (yes rs j)).count true=2^e*(UW d (m+e) (yes rs j)).count true
 | 0,m,d,_=>by rw[Nat.zero_add,Nat.pow_zero,Nat.one_mul,Nat.add_zero]
 | e+1,m,d,h=>by
  have s:=zkp B (d:=e+d) (m:=m) hj (by omega)
  rw[show e+1+d=e+d+1 by omega,zar (2^(e+d)),s.1,s.2,zgG hj e (m+1) d (by omega),show m+1+e=m+(e+1) by omega,Nat.pow_succ,Nat.mul_right_comm]
  omega
theorem Jz {j i lo hi:Nat}(e:rs[j]?=some (some (i,lo,hi)))(hj:j<rs.length):lo<rs.length/\hi<rs.length/\i<z8 n rs lo/\i<z8 n rs hi/\cn n rs j=cn n rs lo*2^(z8 n rs lo-i-1)+cn n rs hi*2^(z8 n rs hi-i-1):=by
 have z:2<=j:=by
  rcases Nat.lt_or_ge j 2 with z | z
  ·exfalso
   have:j=0\/j=1:=by omega
   rcases this with z | z<;>subst z
   ·rw[B.h0] at e;cases e
   ·rw[B.h1] at e;cases e
  ·exact z
 obtain⟨i',lo',hi',e',hin,llo,lhi,hne,l1,l2⟩:=B.rm j z hj
 rw[e] at e'
 cases e'
 have jl:lo<rs.length:=by omega
 have jh:hi<rs.length:=by omega
 refine⟨jl,jh,l1,l2,?_⟩
 have le:=xY B e
 have a1:=WK B lo jl
 have a2:=WK B hi jh
 have nd:=zkq B (d:=n-i-1) e hj
 show(UW (n-z8 n rs j) (z8 n rs j) (yes rs j)).count true=_
 rw[le,show n-i=n-i-1+1 by omega,zar (2^(n-i-1)),nd.1,nd.2]
 have u1:=zgG B jl (z8 n rs lo-i-1) (i+1) (n-z8 n rs lo) (by omega)
 have u2:=zgG B jh (z8 n rs hi-i-1) (i+1) (n-z8 n rs hi) (by omega)
 rw[show z8 n rs lo-i-1+(n-z8 n rs lo)=n-i-1 by omega,show i+1+(z8 n rs lo-i-1)=z8 n rs lo by omega] at u1
 rw[show z8 n rs hi-i-1+(n-z8 n rs hi)=n-i-1 by omega,show i+1+(z8 n rs hi-i-1)=z8 n rs hi by omega] at u2
 rw[u1,u2,Nat.mul_comm,Nat.mul_comm (2^(z8 n rs hi-i-1))]
 rfl
theorem zks:cn n rs 0=0:=by
 have:z8 n rs 0=n:=by unfold z8;rw[B.h0]
 unfold cn
 rw[this,Nat.sub_self]
 rfl
theorem zl9:cn n rs 1=1:=by
 have:z8 n rs 1=n:=by unfold z8;rw[B.h1]
 unfold cn
 rw[this,Nat.sub_self]
 show [yes rs 1 fun _=>false].count true=1
 rw[Ye B]
 rfl
end
end zE
namespace Y9
open PySem L2 zE
def iK (m:Int):Key:=Sum.inl m
def kvI (c:Int->V)(m:Int):Key×V:=(iK m,c m)
theorem zas {c:Int->V}{m:Int}:∀{l:List Int},m∉l->vm (l.map (kvI c)) (iK m)=none
 | [],_=>rfl
 | y::l,h=>by
  rw[zuA,wN (fun z=>h (by rw[show y=m from Sum.inl.inj z];exact zuv))]
  exact zas fun z=>h (zun _ z)
theorem zat {c:Int->V}{m:Int}:∀{l:List Int},m∈l->vm (l.map (kvI c)) (iK m)=some (c m)
 | [],h=>by cases h
 | y::l,h=>by
  by_cases e:y=m
  ·subst e
   exact vo rfl
  ·rw[zuA,wN (fun z=>e (Sum.inl.inj z))]
   exact zat ((List.mem_cons.mp h).resolve_left fun z=>e z.symm)
theorem zch {K:Frag}{H:Hp}{n:Nat}{p q:Addr}{ms:List Int}(hp:zT K H p (ms.map V.int))(hq:zT K H q (ms.map V.int)):Qg K H (n+1) (.ref p) (.ref q) true:=by
 have z:Qg K H (n+1) (.ref p) (.ref q) ((List.range (ms.map V.int).length).all fun _=>true):=.ll hp hq rfl fun j x y h1 h2=>by
  rw[h1] at h2
  cases h2
  rw[zue] at h1
  cases hm:ms[j]? with
  | none=>rw[hm] at h1;cases h1
  | some m =>
   rw[hm] at h1
   cases h1
   have:=Qg.flat (K:=K) (H:=H) (n:=n) (x:=.int m) (y:=.int m) rfl rfl
   rw[SX,decide_eq_true rfl] at this
   exact this
 have e:((List.range (ms.map V.int).length).all fun _=>true)=true:=zuF.mpr fun _ _=>rfl
 rw[e] at z
 exact z
section
variable (C:Addr)
def zci:Sp:=fun vs H Q _=>∃(b d:Addr) (os:List Str) (rs:List Rm) (F:wO) (j g c:Nat) (kvs:List (Key×V)),vs=[.ref b,.int (j:Nat),.int (g:Nat),.ref d]/\yc C H b os rs F/\j<rs.length/\g<rs.length/\z8 os.length rs j<z8 os.length rs g/\H d=some (.dK kvs)/\vm kvs (iK g)=some (.int (c:Nat))/\c<=1000000/\Q (.int ((c*2^(z8 os.length rs g-z8 os.length rs j-1):Nat):Int)) H
def zcj:Sp:=fun vs H Q _=>∃(b d:Addr) (os:List Str) (rs:List Rm) (F:wO) (j:Nat) (kvs:List (Key×V)),vs=[.ref b,.int (j:Nat),.ref d]/\yc C H b os rs F/\j<rs.length/\H d=some (.dK kvs)/\(∀i lo hi,rs[j]?=some (some (i,lo,hi))->vm kvs (iK lo)=some (.int (cn os.length rs lo:Nat))/\vm kvs (iK hi)=some (.int (cn os.length rs hi:Nat)))/\∀H',Same H H'->Q (.int (cn os.length rs j:Nat)) H'
def zma (n:Nat)(rs:List Rm)(H:Hp)(t:Addr)(m:Int):Prop:=H t=some (.tup [.int m,.int (cn n rs m.toNat:Nat)])
def zgH:Sp:=fun vs H Q _=>∃(b:Addr) (os:List Str) (rs:List Rm) (F:wO) (k:Nat),vs=[.ref b,.int (k:Nat)]/\yc C H b os rs F/\k<rs.length/\∀H',Same H H'->Q (.int (z8 os.length rs k:Nat)) H'
end
section
variable {os:List Str}{t:Nat->Bool}
theorem zcZ {α:Type}{p q:α->Bool}:∀{l:List α},(∀a,p a=true->q a=true)->(∃a∈l,q a=true/\p a=false)->(l.filter p).length<(l.filter q).length
 | [],_,h=>by obtain⟨a,ha,_⟩:=h;cases ha
 | x::l,hpq,h=>by
  have le:(l.filter p).length<=(l.filter q).length:=by
   clear h
   induction l with
   | nil=>exact zus _
   | cons y l ih =>
    rw[List.filter_cons,List.filter_cons]
    by_cases c:p y=true
    ·rw[if_pos c,if_pos (hpq y c),zuo,zuo];omega
    ·rw[if_neg c]
     split
     ·rw[zuo];omega
     ·exact ih
  rw[List.filter_cons,List.filter_cons]
  by_cases c:p x=true
  ·rw[if_pos c,if_pos (hpq x c),zuo,zuo]
   obtain⟨a,ha,h1,h2⟩:=h
   rcases List.mem_cons.mp ha with e | e
   ·rw[e,c] at h2;cases h2
   ·have:=zcZ (l:=l) hpq ⟨a,e,h1,h2⟩
    omega
  ·rw[if_neg c]
   by_cases d:q x=true
   ·rw[if_pos d,zuo];omega
   ·rw[if_neg d]
    obtain⟨a,ha,h1,h2⟩:=h
    rcases List.mem_cons.mp ha with e | e
    ·rw[e] at h1;exact absurd h1 d
    ·exact zcZ (l:=l) hpq ⟨a,e,h1,h2⟩
end
end Y9
namespace L2
open PySem
section
variable {K:Frag}{σ:St}{js:List Nat}{tt:TT}{te:TE}{H:Hp}{Qf:Addr->Hp->List V->Prop}
open Y9
theorem Vd {a:Addr}{xs:List V}(Pv:Nat->List V->Hp->Prop)(h0:Pv 0 [] H)(hz:xs.length<=sizeLine)
  (hl:∀i ys H,i<=xs.length->Pv i ys H->zT K H a xs/\ys.length<=i)
  (hs:∀i x ys H (Q:V->Hp->Prop),xs[i]?=some x->Pv i ys H->(∀v H3,Pv (i+1) (ys++[v]) H3->Q v H3)->te (YM σ js (some x)) H Q)
  (hd:∀ys H p,Pv xs.length ys H->H p=none->Qf p H ys) :
  ∃W:Nat->Nat->List V->Hp->Prop,(∃m,W 0 m [] H)/\∀i m ys H,W i m ys H ->
   ((Itl K a).stop i H/\∀p,H p=none->Qf p H ys) \/
   ((Itl K a).go i H/\ys.length<sizeLine/\∀x H',(Itl K a).Jb i H x H'->Qd (YM σ js (some x)) H' fun b H2 =>
    if b=true then te (YM σ js (some x)) H2 fun v H3=>∃m',m'<m/\W (i+1) m' (ys++[v]) H3 else ∃m',m'<m/\W (i+1) m' ys H2):=by
 refine⟨fun i m ys H=>m=xs.length-i/\i<=xs.length/\Pv i ys H,⟨xs.length,by simp,zuy _,h0⟩,?_⟩
 rintro i m ys H ⟨rfl,hi,p⟩
 obtain⟨q,hy⟩:=hl i ys H hi p
 by_cases hlt:i<xs.length
 ·refine .inr ⟨⟨xs,xs[i],q,by simp[hlt]⟩,by omega,fun x H' y=>?_⟩
  obtain⟨e,y⟩:=y
  subst e
  show te (YM σ js (some x)) H' fun v H3=>∃m',m'<xs.length-i/\(m'=xs.length-(i+1)/\i+1<=xs.length/\Pv (i+1) (ys++[v]) H3)
  exact hs i x ys _ _ (y xs q) p fun v H3 h3=>⟨_,Nat.sub_lt_sub_left hlt (Nat.lt_succ_self i),rfl,hlt,h3⟩
 ·have e:i=xs.length:=by omega
  subst e
  exact .inl ⟨⟨xs,q,zus _⟩,fun pp hp=>hd ys H pp p hp⟩
end
end L2
namespace zE
open Y9
theorem zmb {n:Nat}{rs:List Rm}(B:Bk n rs){P:List Nat}:∀(m k:Nat),k<=m->k<rs.length->(∀j i lo hi,Reach rs k j->rs[j]?=some (some (i,lo,hi))->i∈P)->∃c:List Nat,c.length+1<=2^(P.filter fun p=>decide (z8 n rs k<=p)).length/\∀j,Reach rs k j->j<2\/j∈c
 | m,k,hm,hk,hP=>by
  by_cases h2:2<=k
  ·obtain⟨i,lo,hi,e,hin,hlo,hhi,_,l1,l2⟩:=B.rm k h2 hk
   match m,hm with
   | 0,hm=>omega
   | m+1,hm =>
    obtain⟨c1,a1,a2⟩:=zmb B m lo (by omega) (by omega) fun j i' l h r z=>hP j i' l h (.lo e r) z
    obtain⟨c2,b1,b2⟩:=zmb B m hi (by omega) (by omega) fun j i' l h r z=>hP j i' l h (.hi e r) z
    have lk:z8 n rs k=i:=xY B e
    have iP:=hP k i lo hi (.refl _) e
    have less:∀x,i<z8 n rs x->(P.filter fun p=>decide (z8 n rs x<=p)).length<(P.filter fun p=>decide (i<=p)).length:=fun x hx =>
     zcZ (fun a z=>by have:=of_decide_eq_true z;exact decide_eq_true (by omega)) ⟨i,iP,decide_eq_true (zus _),decide_eq_false (by omega)⟩
    refine⟨k::(c1++c2),?_,fun j h=>?_⟩
    ·rw[lk,zuo,zuk]
     obtain⟨d,hd⟩:∃d,(P.filter fun p=>decide (i<=p)).length=d+1:=⟨_,(Nat.succ_pred_eq_of_pos (Nat.lt_of_le_of_lt (zuy _) (less lo l1))).symm⟩
     have q1:=less lo l1
     have q2:=less hi l2
     have p1:2^(P.filter fun p=>decide (z8 n rs lo<=p)).length<=2^d:=zuH (by decide) (by omega)
     have p2:2^(P.filter fun p=>decide (z8 n rs hi<=p)).length<=2^d:=zuH (by decide) (by omega)
     rw[hd,Nat.pow_succ]
     omega
    ·cases h with
     | refl _=>exact .inr zuv
     | lo e' h' =>
      rw[e] at e'
      cases e'
      rcases a2 j h' with z | z
      ·exact .inl z
      ·exact .inr (zun _ (List.mem_append_left _ z))
     | hi e' h' =>
      rw[e] at e'
      cases e'
      rcases b2 j h' with z | z
      ·exact .inl z
      ·exact .inr (zun _ (zut _ z))
  ·refine⟨[],Nat.one_le_two_pow,fun j h=>.inl ?_⟩
   have:k=0\/k=1:=by omega
   cases h with
   | refl _=>omega
   | lo e' _ =>
    exfalso
    rcases this with z | z<;>subst z
    ·rw[B.h0] at e';cases e'
    ·rw[B.h1] at e';cases e'
   | hi e' _ =>
    exfalso
    rcases this with z | z<;>subst z
    ·rw[B.h0] at e';cases e'
    ·rw[B.h1] at e';cases e'
end zE
namespace Y9
open PySem L2 zE
theorem zhu (n:Nat):(List.replicate n true).all id=true:=by
 rw[zuF]
 intro x hx
 exact(List.mem_replicate.mp hx).2
end Y9
namespace L2
open PySem
section
variable {K:Frag}{σ:St}{js:List Nat}{te:TE}{H:Hp}{Qf:Addr->Hp->List V->Prop}
theorem zhv {a:Addr}{xs:List V}(hq:zT K H a xs)(hz:xs.length<=sizeLine)
  (hs:∀(i:Nat) x H' (Q:V->Hp->Prop),xs[i]?=some x->Same H H'->(∀H3,Same H' H3->Q (.bl true) H3)->te (YM σ js (some x)) H' Q)
  (hd:∀H' p,Same H H'->H' p=none->Qf p H' ((List.replicate xs.length true).map V.bl)) :
  ∃W:Nat->Nat->List V->Hp->Prop,(∃m,W 0 m [] H)/\∀i m ys H,W i m ys H ->
   ((Itl K a).stop i H/\∀p,H p=none->Qf p H ys) \/
   ((Itl K a).go i H/\ys.length<sizeLine/\∀x H',(Itl K a).Jb i H x H'->Qd (YM σ js (some x)) H' fun b H2 =>
    if b=true then te (YM σ js (some x)) H2 fun v H3=>∃m',m'<m/\W (i+1) m' (ys++[v]) H3 else ∃m',m'<m/\W (i+1) m' ys H2):=by
 refine Vd (xs:=xs) (fun i ys H'=>Same H H'/\ys=(List.replicate i true).map V.bl) ⟨Same.refl _,rfl⟩ hz ?_ ?_ ?_
 ·rintro i ys H' hi ⟨g,rfl⟩
  exact⟨g.seq hq,by rw[zuc,List.length_replicate];exact zus _⟩
 ·rintro i x ys H' Q0 hx ⟨g,rfl⟩ hQ
  refine hs i x H' Q0 hx g fun H3 g3=>hQ _ _ ⟨g.trans g3,?_⟩
  rw[List.replicate_succ',zuq]
  rfl
 ·rintro ys H' p ⟨g,rfl⟩ hp
  exact hd H' p g hp
end
end L2
namespace L2
open PySem PySem.Spec PyProof.Rows
section
variable {X:Cx}{pins:List (Addr×Obj)}{σ:St}{H:Hp}{s:Shared}
theorem zkt {p:Addr}{ys:List V}{bt:Nat->Nat->Bool}{kw:List (Str×Value)}{Q:VK}{E:Value->Shared->Prop}(I:Inv X pins σ H s)(hc:X.calm=true)(hu:X.A.units+9<cLine)(hkw:kw=[]\/∃d,kw=[(Str.ofString "default", d)])(hq:wK X.K H p ys)(h0:0<ys.length)
  (hcmp:∀(i j:Nat) x y,ys[i]?=some x->ys[j]?=some y->LtD X.K H 8 x y (bt i j))(q:∀v,ys[argBest bt (ys.length-1)]?=some v->Q v H) :
  wpAny (model X.prog X.w) X.A (call (.builtin "min") [.ref p] kw) (EP X pins σ Q) E s:=by
 have hname:(toString "min" ++ toString ".loop" : String)="min.loop" := by decide
 obtain⟨its,r',pl,hz⟩:=I.tuple hq
 have hlen:=r'.length
 have hlt:p<s.heap.objs.size:=by obtain⟨_,e,_⟩:=pl;exact zuj e
 have ha:argsOk "min" ⟨[.ref p],kw⟩:=by
  rcases hkw with rfl | ⟨d,rfl⟩
  ·exact F.args_min1 _
  ·exact VF _ _
 have hb:∃d,Builtin.Builtins.bindParams "min" ["key", "default"] 0 ⟨[],kw⟩=pure [none,d]/\(d.toList.map fun d=>(Str.ofString "default", d))=kw:=by
  rcases hkw with rfl | ⟨d,rfl⟩
  ·exact⟨none,rfl,rfl⟩
  ·exact⟨some d,rfl,rfl⟩
 obtain⟨d,hb,ekw⟩:=hb
 refine kmk_tree F.kind_min F.plain_min F.entry_min ha ?_
 show wpAny _ X.A.in1 (Builtin.Builtins.bindParams "min" ["key", "default"] 0 ⟨[],kw⟩>>=_) _ _ s
 refine wpAny_bind (wpAny_of_eq hb ?_)
 refine wpAny_bind (wpAny_pure ?_)
 refine wpAny_bind (wpAny_pyIter_tuple (show s.heap.IsTuple p its.toArray from pl) ?_)
 refine wpAny_bind (wpAny_newObj_type ?_)
 rw[hname]
 refine wpAny_pure ⟨plainId_quiet F.plain_min_loop _,?_⟩
 show codeAny _ _ (.builtin "min.loop" ⟨[.ref s.heap.objs.size,.none,.ref _],d.toList.map fun d=>(Str.ofString "default", d)⟩) _ _
 rw[ekw]
 have szI:(s.heap.push { cls:=.type "tuple_iterator", data:=.fields #[.ref p,.int 0 0] }).objs.size=s.heap.objs.size+1:=Heap.size_push _ _
 have back:∀(i:Nat) (v:Value),its.toArray[i]?=some v->∃x,ys[i]?=some x/\RelV x v:=fun i v e=>by
  obtain⟨hi,e'⟩:=Array.getElem?_eq_some_iff.mp e
  obtain⟨x,hx,rx⟩:=item_at r' hi
  rw[e'] at rx
  exact⟨x,hx,rx⟩
 have kpS:∀b o,s.heap.get? b=some o->b≠s.heap.objs.size/\b≠s.heap.objs.size+1:=fun b o e=>by
  have:=zuj e
  exact⟨fun z=>by rw[z] at this;exact Nat.lt_irrefl _ this,fun z=>by rw[z] at this;exact Nat.lt_irrefl _ (Nat.lt_of_succ_lt this)⟩
 refine zal (G:=fun s'=>∃h tk,s'={ s with heap:=h,toks:=tk }/\∀b o,s.heap.get? b=some o->h.get? b=some o) (Walks.tuple (A:=X.A.in1) (I.ok.hd hc) s.heap.objs.size p (zur hlt) its.toArray) bt _ ?_ ?_ ?_ ?_ ⟨?_,?_⟩ ?_ (zuw _ rfl) ?_
 ·rintro i j vi vj s' Q' E' hi hj ⟨h,tk,rfl,kp⟩ hQ
  obtain⟨x,hx,rx⟩:=back i vi hi
  obtain⟨y,hy,ry⟩:=back j vj hj
  exact(hcmp i j x y hx hy).at (I.kept (t':=tk) kp) rx ry (by show X.A.units+1+8<cLine;omega) _ _ _ _ hQ
 ·rintro s' h' tk hk ⟨h,tk2,rfl,kp⟩
  refine⟨h',tk,rfl,fun b o e=>hk b o ?_ ?_ (kp b o e)⟩
  ·rw[List.mem_singleton];exact(kpS b o e).1
  ·intro z
   rw[z] at e
   have:=zuj e
   rw[szI] at this
   exact Nat.lt_irrefl _ (Nat.lt_of_succ_lt this)
 ·intro hm
  have z:(s.heap.push { cls:=.type "tuple_iterator", data:=.fields #[.ref p,.int 0 0] }).objs.size=s.heap.objs.size\/(s.heap.push { cls:=.type "tuple_iterator", data:=.fields #[.ref p,.int 0 0] }).objs.size=p:=by simpa using hm
  rw[szI] at z
  rcases z with z | z
  ·exact absurd z (Nat.succ_ne_self _)
  ·rw[<-z] at hlt;exact Nat.lt_irrefl _ (Nat.lt_of_succ_lt hlt)
 ·rw[zum];omega
 ·exact⟨_,zui _ (zuw _ rfl),rfl,rfl⟩
 ·exact((show s.heap.IsTuple p its.toArray from pl).push _).push _
 ·exact⟨_,_,rfl,fun b o e=>zui _ (zui _ e)⟩
 ·intro v h' tk hP hk
  obtain⟨x,hx,rx⟩:=back _ v hP
  have kp:∀b o,s.heap.get? b=some o->h'.get? b=some o:=fun b o e=>hk b o (by rw[List.mem_singleton];exact(kpS b o e).1) (fun z=>by
   rw[z] at e
   have:=zuj e
   rw[szI] at this
   exact Nat.lt_irrefl _ (Nat.lt_of_succ_lt this)) (zui _ (zui _ e))
  rw[zum,<-hlen] at hx
  exact⟨x,H,I.kept kp,rx,q x hx⟩
theorem zck {X:Cx}{K:Frag}(hK:X.K=K)(hc:X.calm=true)(hu:X.A.units+9<cLine):Wc X (.builtin "min") (fun xs H Q=>∃(p:Addr) (a b:Int),xs=[.ref p]/\wK K H p [.int a,.int b]/\Q (.int (if b<a then b else a)) H):=by
 subst hK
 intro pins s σ H xs us Q I r h
 obtain⟨p,a,b,rfl,hq,q⟩:=h
 obtain⟨u,rfl,rx⟩:=vals1 r
 cases rx
 refine zkt (bt:=fun i j=>decide ([a,b].getD i 0<[a,b].getD j 0)) I hc hu (.inl rfl) hq (by show 0<2;decide) (fun i j x y hx hy=>?_) fun v hv=>?_
 ·have e1:∀{i:Nat} {x:V},[V.int a,V.int b][i]?=some x->x=.int ([a,b].getD i 0):=fun {i x} h=>by
   match i,h with
   | 0,h=>cases h;rfl
   | 1,h=>cases h;rfl
  rw[e1 hx,e1 hy]
  exact LtD.int
 ·have e:argBest (fun i j=>decide ([a,b].getD i 0<[a,b].getD j 0)) 1=if b<a then 1 else 0:=by
   show(if decide (b<a)=true then 1 else 0)=_
   by_cases c:b<a
   ·rw[decide_eq_true c,if_pos rfl,if_pos c]
   ·rw[decide_eq_false c,if_neg zug,if_neg c]
  rw[show [V.int a,V.int b].length-1=1 from rfl,e] at hv
  by_cases c:b<a
  ·rw[if_pos c] at hv q;cases hv;exact q
  ·rw[if_neg c] at hv q;cases hv;exact q
end
end L2
namespace L2
open PySem
theorem zku {K:Frag}{σ:St}{js:List Nat}{tt:TT}{te:TE}{H:Hp}{Qf:Addr->Hp->List V->Prop}{a:Addr}{xs:List V}(p:V->Bool)(hq:∀H',Same H H'->wK K H' a xs)(hz:xs.length<=sizeLine)(hte:∀x H' Q,Q x H'->te (YM σ js (some x)) H' Q)
  (hs:∀(i:Nat) x H' (Q:Bool->Hp->Prop),xs[i]?=some x->Same H H'->(∀H2,Same H H2->Q (p x) H2)->tt (YM σ js (some x)) H' Q)
  (hd:∀H' l,Same H H'->H' l=none->Qf l H' (xs.filter p)) :
  ∃W:Nat->Nat->List V->Hp->Prop,(∃m,W 0 m [] H)/\∀i m ys H,W i m ys H ->
   ((Itt K a).stop i H/\∀p,H p=none->Qf p H ys) \/
   ((Itt K a).go i H/\ys.length<sizeLine/\∀x H',(Itt K a).Jb i H x H'->tt (YM σ js (some x)) H' fun b H2 =>
    if b=true then te (YM σ js (some x)) H2 fun v H3=>∃m',m'<m/\W (i+1) m' (ys++[v]) H3 else ∃m',m'<m/\W (i+1) m' ys H2):=by
 refine⟨fun i m ys H'=>m=xs.length-i/\i<=xs.length/\Same H H'/\ys=(xs.take i).filter p,⟨xs.length,by simp,zuy _,Same.refl _,rfl⟩,?_⟩
 rintro i m ys H1 ⟨rfl,hi,g,rfl⟩
 have q:=hq _ g
 by_cases hlt:i<xs.length
 ·have hy:((xs.take i).filter p).length<=i:=zux (zuK _ _) (by rw[zuz];omega)
  refine .inr ⟨⟨xs,xs[i],q,by simp[hlt]⟩,by omega,fun x H' y=>?_⟩
  obtain⟨e,y⟩:=y
  subst e
  have hx:=y xs q
  have et:xs.take (i+1)=xs.take i++[x]:=by
   rw[List.take_add_one,hx]
   rfl
  refine hs i x H' _ hx g fun H2 g2=>?_
  cases c:p x with
  | true =>
   rw[if_pos rfl]
   refine hte _ _ _ ⟨_,Nat.sub_lt_sub_left hlt (Nat.lt_succ_self i),rfl,hlt,g2,?_⟩
   rw[et,zuP,List.filter_cons_of_pos c]
   rfl
  | false =>
   rw[if_neg zug]
   refine⟨_,Nat.sub_lt_sub_left hlt (Nat.lt_succ_self i),rfl,hlt,g2,?_⟩
   rw[et,zuP,List.filter_cons_of_neg (by rw[c];exact zug),List.filter_nil,List.append_nil]
 ·have e:i=xs.length:=by omega
  subst e
  refine .inl ⟨⟨xs,q,zus _⟩,fun l hl=>?_⟩
  rw[zuE]
  exact hd H1 l g hl
theorem zkv {σ:St}{js:List Nat}{te:TE}{H:Hp}{Qf:Addr->Hp->List V->Prop}{n:Nat}(Pv:Nat->List V->Hp->Prop)(h0:Pv 0 [] H)(hz:n<=sizeLine)(hl:∀i ys H,i<=n->Pv i ys H->ys.length<=i)
  (hs:∀(i:Nat) ys H (Q:V->Hp->Prop),i<n->Pv i ys H->(∀v H3,Pv (i+1) (ys++[v]) H3->Q v H3)->te (YM σ js (some (.int ((0:Int)+i)))) H Q)
  (hd:∀ys H p,Pv n ys H->H p=none->Qf p H ys) :
  ∃W:Nat->Nat->List V->Hp->Prop,(∃m,W 0 m [] H)/\∀i m ys H,W i m ys H ->
   ((Itr 0 n).stop i H/\∀p,H p=none->Qf p H ys) \/
   ((Itr 0 n).go i H/\ys.length<sizeLine/\∀x H',(Itr 0 n).Jb i H x H'->Qd (YM σ js (some x)) H' fun b H2 =>
    if b=true then te (YM σ js (some x)) H2 fun v H3=>∃m',m'<m/\W (i+1) m' (ys++[v]) H3 else ∃m',m'<m/\W (i+1) m' ys H2):=by
 refine⟨fun i m ys H=>m=n-i/\i<=n/\Pv i ys H,⟨n,by simp,zuy _,h0⟩,?_⟩
 rintro i m ys H ⟨rfl,hi,p⟩
 have hy:=hl i ys H hi p
 by_cases hlt:i<n
 ·refine .inr ⟨hlt,by omega,fun x H' y=>?_⟩
  obtain⟨e,y⟩:=y
  subst e y
  exact hs i ys _ _ hlt p fun v H3 h3=>⟨_,Nat.sub_lt_sub_left hlt (Nat.lt_succ_self i),rfl,hlt,h3⟩
 ·have e:i=n:=by omega
  subst e
  exact .inl ⟨zus _,fun pp hp=>hd ys H pp p hp⟩
end L2
namespace zE
def wtd (ws:List Wg):Nat->Nat->Row->Int
 | 0,_,_=>0
 | d+1,a,f=>w2 (ws.getD a (0,0)) (f a)+wtd ws d (a+1) f
def lw (s:Wg):Int:=if s.2<s.1 then s.2 else s.1
def fr (ws:List Wg):Nat->Nat->Int
 | 0,_=>0
 | d+1,a=>lw (ws.getD a (0,0))+fr ws d (a+1)
theorem znB (s:Wg)(v:Bool):lw s<=w2 s v:=by
 unfold lw w2
 cases v<;>split<;>simp<;>omega
theorem znC (s:Wg):∃v,w2 s v=lw s:=by
 unfold lw w2
 by_cases h:s.2<s.1
 ·exact⟨true,by rw[if_pos h];rfl⟩
 ·exact⟨false,by rw[if_neg h];rfl⟩
section
variable {ws:List Wg}
theorem Mv:∀(e d a:Nat) (f:Row),wtd ws (e+d) a f=wtd ws e a f+wtd ws d (a+e) f
 | 0,d,a,f=>by rw[Nat.zero_add];show _=(0:Int)+_;rw[Int.zero_add];rfl
 | e+1,d,a,f=>by
  rw[show e+1+d=e+d+1 by omega]
  show w2 _ _+wtd ws (e+d) (a+1) f=w2 _ _+wtd ws e (a+1) f+_
  rw[Mv e d (a+1) f,show a+1+e=a+(e+1) by omega]
  omega
theorem Xn:∀(d a:Nat) {f f':Row},(∀k,a<=k->k<a+d->f k=f' k)->wtd ws d a f=wtd ws d a f'
 | 0,_,_,_,_=>rfl
 | d+1,a,f,f',h=>by
  show w2 _ _+wtd ws d (a+1) f=w2 _ _+wtd ws d (a+1) f'
  rw[h a (zus _) (by omega),Xn d (a+1) fun k h1 h2=>h k (by omega) (by omega)]
theorem zk7:∀(d a:Nat) (f:Row),fr ws d a<=wtd ws d a f
 | 0,_,_=>Int.le_refl _
 | d+1,a,f=>by
  have h1:=znB (ws.getD a (0,0)) (f a)
  have h2:=zk7 d (a+1) f
  show lw _+fr ws d (a+1)<=w2 _ _+wtd ws d (a+1) f
  omega
theorem zk8:∀(d a:Nat),∃f:Row,wtd ws d a f=fr ws d a
 | 0,_=>⟨fun _=>false,rfl⟩
 | d+1,a=>by
  obtain⟨f,e⟩:=zk8 d (a+1)
  obtain⟨v,ev⟩:=znC (ws.getD a (0,0))
  refine⟨fun k=>if k=a then v else f k,?_⟩
  show w2 _ (if a=a then v else f a)+wtd ws d (a+1) _=lw _+fr ws d (a+1)
  rw[if_pos rfl,ev,<-e]
  congr 1
  exact Xn d (a+1) fun k h1 _=>if_neg (by omega)
def LB (ws:List Wg)(d a:Nat)(g:Row->Bool)(x:Int):Prop:=(∃f,g f=true/\wtd ws d a f=x)/\∀f,g f=true->x<=wtd ws d a f
def LBo (ws:List Wg)(d a:Nat)(g:Row->Bool):Option Int->Prop
 | none=>∀f,g f=false
 | some x=>LB ws d a g x
theorem LBo.one {d a:Nat}{g:Row->Bool}{o p:Option Int}(h1:LBo ws d a g o)(h2:LBo ws d a g p):o=p:=by
 cases o with
 | none =>
  cases p with
  | none=>rfl
  | some y=>obtain⟨f,e,_⟩:=h2.1;rw[h1 f] at e;cases e
 | some x =>
  cases p with
  | none=>obtain⟨f,e,_⟩:=h1.1;rw[h2 f] at e;cases e
  | some y =>
   obtain⟨f,e1,e2⟩:=h1.1
   obtain⟨f',e3,e4⟩:=h2.1
   have a1:=h1.2 f' e3
   have a2:=h2.2 f e1
   congr 1
   omega
theorem LB.up {d a e n:Nat}{g:Row->Bool}{x:Int}(hn:a+e+d=n)(dep:Dep n (a+e) g)(h:LB ws d (a+e) g x):LB ws (e+d) a g (fr ws e a+x):=by
 obtain⟨⟨f,g1,g2⟩,h2⟩:=h
 obtain⟨f0,e0⟩:=zk8 (ws:=ws) e a
 refine⟨⟨fun k=>if k<a+e then f0 k else f k,?_,?_⟩,fun f' hf'=>?_⟩
 ·rw[<-g1]
  exact dep _ _ fun i h1 h2=>if_neg (by omega)
 ·rw[Mv,<-e0,<-g2]
  congr 1
  ·exact Xn e a fun k h1 h2=>if_pos h2
  ·exact Xn d (a+e) fun k h1 _=>if_neg (by omega)
 ·rw[Mv]
  have:=zk7 (ws:=ws) e a f'
  have:=h2 f' hf'
  omega
def lo2:Option Int->Option Int->Option Int
 | none,o=>o
 | o,none=>o
 | some x,some y=>some (if y<x then y else x)
section
variable {n:Nat}{rs:List Rm}(B:Bk n rs)
include B
def cnd (ws:List Wg)(n:Nat)(rs:List Rm)(i c:Nat)(v:Bool)(o:Option Int):Option Int:=o.map fun x=>w2 (ws.getD i (0,0)) v+fr ws (z8 n rs c-(i+1)) (i+1)+x
theorem LBo.node {j i lo hi:Nat}(e:rs[j]?=some (some (i,lo,hi)))(hj:j<rs.length){o p:Option Int}(h1:LBo ws (n-z8 n rs lo) (z8 n rs lo) (yes rs lo) o)(h2:LBo ws (n-z8 n rs hi) (z8 n rs hi) (yes rs hi) p) :
  LBo ws (n-z8 n rs j) (z8 n rs j) (yes rs j) (lo2 (cnd ws n rs i lo false o) (cnd ws n rs i hi true p)):=by
 obtain⟨jl,jh,l1,l2,_⟩:=Jz B e hj
 have a1:=WK B lo jl
 have a2:=WK B hi jh
 rw[xY B e]
 have st:=Xv B e
 have side:∀{c:Nat} {v:Bool} {q:Option Int},c<rs.length->i<z8 n rs c->z8 n rs c<=n->(∀f:Row,f i=v->yes rs j f=yes rs c f)->LBo ws (n-z8 n rs c) (z8 n rs c) (yes rs c) q ->
   match cnd ws n rs i c v q with
   | none=>∀f:Row,f i=v->yes rs j f=false
   | some x=>(∃f:Row,f i=v/\yes rs j f=true/\wtd ws (n-i) i f=x)/\∀f:Row,f i=v->yes rs j f=true->x<=wtd ws (n-i) i f:=by
  intro c v q hc hl hn eq hq
  cases q with
  | none=>exact fun f hf=>by rw[eq f hf];exact hq f
  | some x =>
   have U:=LB.up (ws:=ws) (a:=i+1) (e:=z8 n rs c-(i+1)) (d:=n-z8 n rs c) (n:=n) (by omega) (Jy B hc (by omega)) (by rw[show i+1+(z8 n rs c-(i+1))=z8 n rs c by omega];exact hq)
   rw[show z8 n rs c-(i+1)+(n-z8 n rs c)=n-(i+1) by omega] at U
   have ed:n-i=n-(i+1)+1:=by omega
   refine⟨?_,fun f hf hy=>?_⟩
   ·obtain⟨f,f1,f2⟩:=U.1
    have same:yes rs c (fun k=>if k=i then v else f k)=true:=by
     rw[<-f1]
     exact Jy B hc (m:=i+1) (by omega) _ _ fun k h1 _=>if_neg (by omega)
    refine⟨fun k=>if k=i then v else f k,if_pos rfl,by rw[eq _ (if_pos rfl)];exact same,?_⟩
    rw[ed]
    show w2 _ (if i=i then v else f i)+wtd ws (n-(i+1)) (i+1) _=w2 _ v+_+_
    rw[if_pos rfl,Xn (n-(i+1)) (i+1) (f':=f) fun k h1 _=>if_neg (by omega),f2]
    omega
   ·rw[ed]
    show w2 _ v+_+_<=w2 _ (f i)+wtd ws (n-(i+1)) (i+1) f
    have:=U.2 f (by rw[<-eq f hf];exact hy)
    rw[hf]
    omega
 have s0:=side (v:=false) jl l1 a1 (fun f hf=>by rw[st f,hf];rfl) h1
 have s1:=side (v:=true) jh l2 a2 (fun f hf=>by rw[st f,hf];rfl) h2
 generalize cnd ws n rs i lo false o=x0 at s0 ⊢
 generalize cnd ws n rs i hi true p=x1 at s1 ⊢
 have zd5:∀f:Row,f i=false\/f i=true:=fun f=>by cases f i<;>simp
 cases x0 with
 | none =>
  cases x1 with
  | none=>exact fun f=>(zd5 f).elim (s0 f) (s1 f)
  | some y =>
   obtain⟨⟨f,_,f2,f3⟩,m⟩:=s1
   exact⟨⟨f,f2,f3⟩,fun f' h'=>(zd5 f').elim (fun z=>by rw[s0 f' z] at h';cases h') fun z=>m f' z h'⟩
 | some x =>
  obtain⟨⟨f,_,f2,f3⟩,m⟩:=s0
  cases x1 with
  | none=>exact⟨⟨f,f2,f3⟩,fun f' h'=>(zd5 f').elim (fun z=>m f' z h') fun z=>by rw[s1 f' z] at h';cases h'⟩
  | some y =>
   obtain⟨⟨g,_,g2,g3⟩,m'⟩:=s1
   show LB ws (n-i) i (yes rs j) (if y<x then y else x)
   by_cases c:y<x
   ·rw[if_pos c]
    exact⟨⟨g,g2,g3⟩,fun f' h'=>(zd5 f').elim (fun z=>Int.le_of_lt (Int.lt_of_lt_of_le c (m f' z h'))) fun z=>m' f' z h'⟩
   ·rw[if_neg c]
    exact⟨⟨f,f2,f3⟩,fun f' h'=>(zd5 f').elim (fun z=>m f' z h') fun z=>Int.le_trans (by omega) (m' f' z h')⟩
theorem zkw:∀(k j:Nat),j<=k->j<rs.length->∃o,LBo ws (n-z8 n rs j) (z8 n rs j) (yes rs j) o:=by
 intro k
 induction k with
 | zero =>
  intro j h1 h2
  have:j=0:=by omega
  subst this
  exact⟨none,fun f=>zaf B f⟩
 | succ k ih =>
  intro j h1 h2
  by_cases c:2<=j
  ·obtain⟨i,lo,hi,e,_,a1,a2,_⟩:=B.rm j c h2
   obtain⟨o,ho⟩:=ih lo (by omega) (by omega)
   obtain⟨p,hp⟩:=ih hi (by omega) (by omega)
   exact⟨_,LBo.node B e h2 ho hp⟩
  ·rcases (by omega:j=0\/j=1) with z | z<;>subst z
   ·exact⟨none,fun f=>zaf B f⟩
   ·refine⟨some 0,⟨⟨fun _=>false,Ye B _,?_⟩,fun f _=>?_⟩⟩
    ·rw[Yg B,Nat.sub_self];rfl
    ·rw[Yg B,Nat.sub_self];exact Int.le_refl _
end
noncomputable def ld (ws:List Wg) (n:Nat) (rs:List Rm) (j:Nat):Option Int:=by
 classical
 exact if h:∃o,LBo ws (n-z8 n rs j) (z8 n rs j) (yes rs j) o then h.choose else none
section
variable {n:Nat}{rs:List Rm}(B:Bk n rs)
include B
theorem zav {j:Nat}(hj:j<rs.length):LBo ws (n-z8 n rs j) (z8 n rs j) (yes rs j) (ld ws n rs j):=by
 have h:=zkw (ws:=ws) B j j (zus _) hj
 unfold ld
 rw[dif_pos h]
 exact h.choose_spec
theorem zkx:ld ws n rs 0=none:=by
 refine(zav (ws:=ws) B (by have:=len2 B;omega)).one ?_
 exact fun f=>zaf B f
theorem zmc:ld ws n rs 1=some 0:=by
 refine(zav (ws:=ws) B (by have:=len2 B;omega)).one ⟨⟨fun _=>false,Ye B _,?_⟩,fun f _=>?_⟩
 ·rw[Yg B,Nat.sub_self];rfl
 ·rw[Yg B,Nat.sub_self];exact Int.le_refl _
theorem zky {j i lo hi:Nat}(e:rs[j]?=some (some (i,lo,hi)))(hj:j<rs.length):ld ws n rs j=lo2 (cnd ws n rs i lo false (ld ws n rs lo)) (cnd ws n rs i hi true (ld ws n rs hi)):=by
 obtain⟨jl,jh,_⟩:=Jz B e hj
 exact(zav B hj).one (LBo.node B e hj (zav B jl) (zav B jh))
end
end
theorem zi3:∀(ws:List Wg) (r:List Bool) (a:Nat) (vs:List Wg),vs.drop a=ws->r.length=ws.length->∀(f:Row),(∀k,k<r.length->f (a+k)=r.getD k false)->wg ws r=wtd vs r.length a f
 | [],r,a,vs,_,hl,f,_=>by
  cases r with
  | nil=>rfl
  | cons _ _=>cases hl
 | s::ws,r,a,vs,hd,hl,f,hf=>by
  cases r with
  | nil=>cases hl
  | cons b r =>
   have ha:a<vs.length:=by
    rcases Nat.lt_or_ge a vs.length with z | z
    ·exact z
    ·rw[List.drop_eq_nil_of_le z] at hd;cases hd
   rw[List.drop_eq_getElem_cons ha] at hd
   injection hd with h1 h2
   have ih:=zi3 ws r (a+1) vs h2 (by simpa using hl) f fun k hk=>by
    have:=hf (k+1) (by simp;omega)
    rw[show a+1+k=a+(k+1) by omega,this]
    rfl
   have e0:=hf 0 (by simp)
   show(w2 s b::wgl ws r).sum=w2 (vs.getD a (0,0)) (f a)+wtd vs r.length (a+1) f
   rw[List.sum_cons,zup,zud ha,<-ih]
   rw[show f a=b from e0]
   show w2 s b+_=w2 (vs[a]) b+_
   rw[h1]
   rfl
end zE
namespace Y9
open PySem L2 zE
theorem zfp {n:Nat}{rs:List Rm}{ws:List Wg}{j:Nat}(B:Bk n rs)(hj:j<rs.length)(hw:ws.length=n){r:List Bool}(h:zap ws (wJ n rs j) r):∃x,ld ws n rs j=some x/\wg ws r=x+fr ws (z8 n rs j) 0:=by
 have D:=zav (ws:=ws) B hj
 obtain⟨i,hi,h1,_⟩:=h
 have mr:=List.mem_filter.mp (zuh hi)
 have lr:=YG n r mr.1
 have le:=WK B j hj
 have ww:∀r:List Bool,r.length=n->wg ws r=wtd ws n 0 (xV r):=fun r lr=>by
  have:=zi3 ws r 0 ws rfl (by omega) (xV r) fun k _=>by rw[Nat.zero_add];rfl
  rw[this,lr]
 cases e:ld ws n rs j with
 | none =>
  rw[e] at D
  have y:yes rs j (xV r)=true:=by simpa using mr.2
  rw[D (xV r)] at y
  cases y
 | some x =>
  rw[e] at D
  have U:=LB.up (ws:=ws) (a:=0) (e:=z8 n rs j) (d:=n-z8 n rs j) (n:=n) (by omega) (by rw[Nat.zero_add];exact Jy B hj (zus _)) (by rw[Nat.zero_add];exact D)
  rw[show z8 n rs j+(n-z8 n rs j)=n by omega] at U
  refine⟨x,rfl,?_⟩
  have a1:=U.2 (xV r) (by simpa using mr.2)
  rw[<-ww r lr] at a1
  obtain⟨f,f1,f2⟩:=U.1
  have lt:((List.range n).map f).length=n:=by rw[zuc,List.length_range]
  have rf:∀k,k<n->xV ((List.range n).map f) k=f k:=fun k hk=>by
   unfold xV
   rw[zup,zue,List.getElem?_range hk]
   rfl
  have mt:(List.range n).map f∈wJ n rs j:=by
   refine List.mem_filter.mpr ⟨?_,?_⟩
   ·exact Yi f n
   ·have:yes rs j (xV ((List.range n).map f))=yes rs j f:=uz B j j (zus _) hj fun k _ h2=>rf k h2
    rw[this];exact f1
  obtain⟨q,hq,eq⟩:=zuS mt
  have a2:=h1 q _ (by rw[zud hq,eq])
  rw[ww _ lt,Xn n 0 (f':=f) fun k _ h2=>rf k (by omega),f2] at a2
  omega
theorem zhx {n:Nat}{rs:List Rm}{ws:List Wg}{j:Nat}(B:Bk n rs)(hj:j<rs.length)(h:wJ n rs j=[]):ld ws n rs j=none:=by
 refine(zav (ws:=ws) B hj).one fun f=>?_
 have lt:((List.range n).map f).length=n:=by rw[zuc,List.length_range]
 have rf:∀k,k<n->xV ((List.range n).map f) k=f k:=fun k hk=>by
  unfold xV
  rw[zup,zue,List.getElem?_range hk]
  rfl
 have this:yes rs j (xV ((List.range n).map f))=yes rs j f:=uz B j j (zus _) hj fun k _ h2=>rf k h2
 cases e:yes rs j f with
 | false=>rfl
 | true =>
  exfalso
  have m:(List.range n).map f∈wJ n rs j:=by
   refine List.mem_filter.mpr ⟨?_,by rw[this];exact e⟩
   exact Yi f n
  rw[h] at m
  cases m
theorem zkz {xs:List V}{m n:Nat}(hm:m<=n)(hn:n<=xs.length):Qa xs (some ((m:Nat):Int)) (some ((n:Nat):Int))=(xs.drop m).take (n-m):=by
 unfold Qa
 have e1:min m xs.length=m:=Nat.min_eq_left (by omega)
 have e2:min n xs.length=n:=Nat.min_eq_left hn
 rw[HT.Vt,HT.Vt,e1,e2]
theorem zfq {C:Addr}{K:Frag}{b l:Addr}{os:List Str}{rs:List Rm}{F:wO}{k:Nat}{ps:List Addr}{ws:List Wg}{H:Hp}{Q:VK}{E:XK}(hB:yc C H b os rs F)(hk:k<rs.length)(hw:uE K H l ps ws os.length)
  (h:∀fv H',Same H H'->(fv=.non/\wJ os.length rs k=[]\/∃(q rl:Addr) (r:List Bool),fv=.ref q/\zap ws (wJ os.length rs k) r/\H' q=some (.tup [.int (wg ws r),.ref rl])/\H' rl=some (.lst (uP r)))->Q fv H'):Qi C K [.ref b,.int (k:Nat),.ref l] H Q E :=
 ⟨b,l,os,rs,F,k,ps,ws,rfl,hB,hk,hw,fun H' g e=>h _ _ g (.inl ⟨rfl,e⟩),fun q rl H' r g _ _ lt h1 h2=>h _ _ g (.inr ⟨q,rl,r,rfl,lt,h1,h2⟩)⟩
theorem zmd {n:Nat}{rs:List Rm}(B:Bk n rs){j:Nat}(hj:j<rs.length):(wJ n rs j).length=2^z8 n rs j*cn n rs j:=by
 have le:=WK B j hj
 have u:=zgG B hj (z8 n rs j) 0 (n-z8 n rs j) (by omega)
 rw[show z8 n rs j+(n-z8 n rs j)=n by omega,Nat.zero_add] at u
 have t:=zd4 n 0 (yes rs j)
 show((allR n).filter _).length=2^z8 n rs j*(UW _ _ _).count true
 rw[<-u,<-count_map]
 exact congrArg (List.count true) t
def ldV:Option Int->V
 | none=>.non
 | some x=>.int x
section
variable (C:Addr)(K:Frag)
def RM:Sp:=fun vs H Q _=>∃(b l d:Addr) (os:List Str) (rs:List Rm) (F:wO) (j i lo hi:Nat) (v:Bool) (ps:List Addr) (ws:List Wg) (kvs:List (Key×V)) (x:Int),vs=[.ref b,.int (j:Nat),.int (v.toNat:Nat),.ref l,.ref d]/\yc C H b os rs F/\rs[j]?=some (some (i,lo,hi))/\uE K H l ps ws os.length/\H d=some (.dK kvs)/\vm kvs (iK ((if v then hi else lo:Nat):Int))=some (.int x) /\
 ∀H',Same H H'->Q (.int (zE.w2 (ws.getD i (0,0)) v+fr ws (z8 os.length rs (if v then hi else lo)-(i+1)) (i+1)+x)) H'
def zd7:Sp:=fun vs H Q _=>∃(b l d:Addr) (os:List Str) (rs:List Rm) (F:wO) (j:Nat) (ps:List Addr) (ws:List Wg) (kvs:List (Key×V)),vs=[.ref b,.int (j:Nat),.ref l,.ref d]/\yc C H b os rs F/\j<rs.length/\uE K H l ps ws os.length/\H d=some (.dK kvs)/\(∀i lo hi,rs[j]?=some (some (i,lo,hi))->vm kvs (iK lo)=some (ldV (ld ws os.length rs lo))/\vm kvs (iK hi)=some (ldV (ld ws os.length rs hi))) /\
 ∀H',Same H H'->Q (ldV (ld ws os.length rs j)) H'
def LdP (ws:List Wg)(n:Nat)(rs:List Rm)(H:Hp)(t:Addr)(m:Int):Prop:=H t=some (.tup [.int m,ldV (ld ws n rs m.toNat)])
end
theorem zfr {ws:List Wg}:∀(d a:Nat),a+d<=ws.length->(((ws.drop a).take d).map lw).sum=fr ws d a
 | 0,_,_=>by rw[List.take_zero];rfl
 | d+1,a,h=>by
  rw[List.drop_eq_getElem_cons (by omega),List.take_succ_cons,zuA,List.sum_cons,zfr d (a+1) (by omega)]
  show _=lw (ws.getD a (0,0))+_
  rw[zup,zud (by omega)]
  rfl
end Y9
namespace Y9
open PySem L2
def Sn.sup:Sn->List Str
 | .c0 _=>[]
 | .mk x=>[x]
 | .nt s=>s.sup
 | .b2 _ s t=>s.sup++t.sup
 | .q1 _ _ s=>s.sup
theorem Sn.S6:∀(s:Sn) {f g:Str->Bool},(∀x∈s.sup,f x=g x)->s.val f=s.val g
 | .c0 _,f,g,_=>rfl
 | .mk x,f,g,h=>h x (List.mem_singleton.mpr rfl)
 | .nt s,f,g,h=>by
  show(!s.val f)=!s.val g
  rw[Sn.S6 s h]
 | .b2 o s t,f,g,h=>by
  have h1:=Sn.S6 s (f:=f) (g:=g) fun x hx=>h x (List.mem_append_left _ hx)
  have h2:=Sn.S6 t (f:=f) (g:=g) fun x hx=>h x (zut _ hx)
  unfold Sn.val
  rw[h1,h2]
 | .q1 o y s,f,g,h=>by
  have h1:=Sn.S6 s (f:=fun z=>if z=y then false else f z) (g:=fun z=>if z=y then false else g z) fun x hx=>by
   show(if x=y then false else f x)=if x=y then false else g x
   rw[h x hx]
  have h2:=Sn.S6 s (f:=fun z=>if z=y then true else f z) (g:=fun z=>if z=y then true else g z) fun x hx=>by
   show(if x=y then true else f x)=if x=y then true else g x
   rw[h x hx]
  cases o<;>(unfold Sn.val;rw[h1,h2])
def Few (ss:List Sn):Prop:=∀R:List Sn,(∀r∈R,r∈ss)->∃P:List Str,2*P.length<=ss.length+R.length/\∀r∈R,∀x∈r.sup,x∈P
open Classical in
theorem Few.push {ss:List Sn}(F:Few ss){s:Sn}(cs:List Sn)(xs:List Str)(hc:∀c∈cs,c∈ss)(hs:∀x∈s.sup,x∈xs\/∃c∈cs,x∈c.sup)(hn:2*xs.length+cs.length<=2):Few (ss++[s]):=fun R hR=>by
 have hl:(ss++[s]).length=ss.length+1:=by rw[zuk];rfl
 by_cases h:∀r∈R,r∈ss
 ·obtain⟨P,h1,h2⟩:=F R h
  exact⟨P,by omega,h2⟩
 ·obtain⟨r0,h0⟩:=Classical.not_forall.mp h
  have ⟨h0,h0'⟩:=Classical.not_imp.mp h0
  have lt:(R.filter fun r=>decide (r∈ss)).length<R.length:=List.length_filter_lt_length_iff_exists.mpr ⟨r0,h0,by simpa using h0'⟩
  obtain⟨P,h1,h2⟩:=F (R.filter (fun r=>decide (r∈ss))++cs) fun r hr=>by
   rcases List.mem_append.mp hr with z | z
   ·exact of_decide_eq_true (List.mem_filter.mp z).2
   ·exact hc r z
  rw[zuk] at h1
  refine⟨P++xs,by rw[zuk];omega,fun r hr x hx=>?_⟩
  by_cases z:r∈ss
  ·exact List.mem_append_left _ (h2 r (List.mem_append_left _ (List.mem_filter.mpr ⟨hr,decide_eq_true z⟩)) x hx)
  ·have e:r=s:=by
    rcases List.mem_append.mp (hR r hr) with y | y
    ·exact absurd y z
    ·exact List.mem_singleton.mp y
   subst e
   rcases hs x hx with y | ⟨c,hc',y⟩
   ·exact zut _ y
   ·exact List.mem_append_left _ (h2 c (zut _ hc') x y)
theorem Few.none:Few []:=fun R hR=>⟨[],by show 2*0<=0+R.length;omega,fun r hr=>absurd (hR r hr) zuC⟩
theorem Few.last {ss:List Sn}(F:Few ss){s:Sn}(h:s∈ss):∃P:List Str,2*P.length<=ss.length+1/\∀x∈s.sup,x∈P:=by
 obtain⟨P,h1,h2⟩:=F [s] fun r hr=>by rw[List.mem_singleton.mp hr];exact h
 exact⟨P,h1,h2 s (List.mem_singleton.mpr rfl)⟩
structure zcl (H0 H:Hp)(os:List Str)(m kd:Addr)(ps:List Addr)(d:Nat)(ss:List Sn):Prop where
 M:Made H0 H os m kd ps d
 few:Few ss
 len:ss.length=ps.length
 all:∀p∈ps,∃s,s∈ss/\Sy H s p/\s.QK os/\s.depth<=d
theorem zcl.push {H0 H:Hp}{os:List Str}{m kd p:Addr}{ps:List Addr}{d:Nat}{xs:List V}{ss:List Sn}(N:zcl H0 H os m kd ps d ss)(fm:H0 m=none)(hp:H p=none){s:Sn}(hs:Sy (upd H p (.tup xs)) s p)(ho:s.QK os)(hd:s.depth<=d+1)(hk:m≠kd)(fw:Few (ss++[s])) :
  zcl H0 (upd (upd H p (.tup xs)) m (.lst ((ps++[p]).map V.ref))) os m kd (ps++[p]) (d+1) (ss++[s]):=by
 have M:=N.M
 have hm:m≠p:=zx M.mad hp
 have mad':(upd H p (.tup xs)) m=some (.lst (ps.map V.ref)):=by rw[zy hm];exact M.mad
 have t1:xq H (upd H p (.tup xs)):=xq.new hp _
 have t2:xq (upd H p (.tup xs)) (upd (upd H p (.tup xs)) m (.lst ((ps++[p]).map V.ref))):=xq.lst mad' _
 refine⟨M.push fm hp hs ho hd hk,fw,by rw[zuk,zuk,N.len];rfl,fun q hq=>?_⟩
 rcases List.mem_append.mp hq with z | z
 ·obtain⟨s',q0,q1,q2,q3⟩:=N.all q z
  exact⟨s',List.mem_append_left _ q0,(q1.mono t1).mono t2,q2,by omega⟩
 ·have z':q=p:=by simpa using z
  subst z'
  exact⟨s,zut _ (List.mem_singleton.mpr rfl),hs.mono t2,ho,hd⟩
def KC (K:Frag):Sp:=fun vs H Q _=>∃(sc ol:Addr) (ns:List Int) (t m:Nat) (os:List Str),vs=[.ref sc,.int t,.int m,.ref ol]/\zT K H sc (ns.map V.int)/\zT K H ol (os.map V.str)/\0<os.length/\os.length<=8/\0<m/\m<=40/\t<=60 /\
 ∀(p:Addr) (H':Hp) (s:Sn),Same H H'->Sy H' s p->s.QK os->s.depth<=m->(∃P:List Str,2*P.length<=m+1/\∀x∈s.sup,x∈P)->Q (.ref p) H'
end Y9
namespace Y9
open PySem L2 zE
theorem zfs {os:List Str}{rs:List Rm}(B:Bk os.length rs){k j i lo hi:Nat}(hk:k<rs.length)(fr:∀(R:Row) (v:Bool),yes rs k (put R i v)=yes rs k R)(h:Reach rs k j)(e:rs[j]?=some (some (i,lo,hi))):False:=by
 have j2:2<=j:=by
  rcases Nat.lt_or_ge j 2 with z | z
  ·have:j=0\/j=1:=by omega
   rcases this with z | z
   ·rw[z,B.h0] at e;cases e
   ·rw[z,B.h1] at e;cases e
  ·exact z
 have jl:j<rs.length:=(zuf.mp e).1
 obtain⟨i',lo',hi2,e',hin,llo,lhi,hne,l1,l2⟩:=B.rm j j2 jl
 rw[e] at e'
 cases e'
 obtain⟨ρ,hρ⟩:=zfk B hk h
 have lm:z8 os.length rs j=i:=xY B e
 refine hne ?_
 refine zd3 B (by omega) (by omega) fun r hr=>?_
 have key:∀v,yes rs j (put (xV r) i v)=yes rs k (mxr ρ (xV r) i):=fun v=>by
  rw[hρ,lm,<-fr (mxr ρ (xV r) i) v]
  congr 1
  funext p
  by_cases h1:p<i
  ·rw[Tr h1]
   unfold put
   rw[if_neg (by omega),Tr h1]
  ·rw[Mu (by omega)]
   unfold put
   by_cases h2:p=i
   ·rw[if_pos h2,if_pos h2]
   ·rw[if_neg h2,if_neg h2,Mu (by omega)]
 obtain⟨y0,y1⟩:=Zm B e jl (xV r)
 rw[<-y0,<-y1,key,key]
def zft (rs:List Rm)(k:Nat):Prop:=∀xs:List Nat,xs.Nodup->(∀x∈xs,Reach rs k x)->xs.length<=33
theorem zkA {os:List Str}{rs:List Rm}(B:Bk os.length rs){k:Nat}{s:Sn}(m:Means rs k (fun r=>s.val (zlX os r))){P:List Str}(hP:2*P.length<=8)(h:∀x∈s.sup,x∈P):zft rs k:=fun xs nd hx=>by
 obtain⟨c,c1,c2⟩:=zmb B (P:=P.map (ix os)) k k (zus _) m.1 fun j i lo hi r e=>Decidable.byContradiction fun hi'=>by
  refine zfs B m.1 (fun R v=>?_) r e
  rw[m.2,m.2]
  refine Sn.S6 s fun x hx=>?_
  unfold zlX put
  have:ix os x≠i:=fun z=>hi' (List.mem_map.mpr ⟨x,h x hx,z⟩)
  rw[if_neg this]
 have q:=sub_len (ys:=0::1::c) nd fun x hx'=>by
  rcases c2 x (hx x hx') with z | z
  ·have:x=0\/x=1:=by omega
   rcases this with w | w<;>simp[w]
  ·exact zun _ (zun _ z)
 have l4:(P.map (ix os)).length<=4:=by rw[zuc];omega
 have lf:=zuK (fun p=>decide (z8 os.length rs k<=p)) (P.map (ix os))
 have p:2^((P.map (ix os)).filter fun p=>decide (z8 os.length rs k<=p)).length<=2^4:=zuH (by decide) (by omega)
 rw[zuo,zuo] at q
 have:2^4=16:=rfl
 omega
section
variable (C:Addr)(K:Frag)
def Tt:Sp:=fun vs H Q _=>∃(b:Addr) (os:List Str) (rs:List Rm) (F:wO) (k:Nat),vs=[.ref b,.int k]/\yc C H b os rs F/\k<rs.length/\zft rs k/\∀(l:Addr) (H':Hp) (ms:List Int),Same H H'->H l=none->H' l=some (.lst (ms.map V.int))->uD rs k ms->Q (.ref l) H'
def zcm:Sp:=fun vs H Q _=>∃(b:Addr) (os:List Str) (rs:List Rm) (F:wO) (k:Nat),vs=[.ref b,.int (k:Nat)]/\yc C H b os rs F/\k<rs.length/\zft rs k/\∀(l:Addr) (ts:List Addr) (ms:List Int) (H':Hp),Same H H'->H l=none->uD rs k ms->Paired (fun t m=>H t=none/\zma os.length rs H' t m) ts ms->H' l=some (.lst (ts.map V.ref))->Q (.ref l) H'
def zd8:Sp:=fun vs H Q _=>∃(b l:Addr) (os:List Str) (rs:List Rm) (F:wO) (k:Nat) (ps:List Addr) (ws:List Wg),vs=[.ref b,.int (k:Nat),.ref l]/\yc C H b os rs F/\k<rs.length/\zft rs k/\uE K H l ps ws os.length /\
 ∀(r:Addr) (ts:List Addr) (ms:List Int) (H':Hp),Same H H'->H r=none->uD rs k ms->Paired (fun t m=>H t=none/\LdP ws os.length rs H' t m) ts ms->H' r=some (.lst (ts.map V.ref))->Q (.ref r) H'
end
end Y9
namespace K85
open PySem L2
def top (i:Nat):Stmt:=PySem.Challenge.pw_decidebook_k85_whole_papers_and_counts.main.body.getD i (.Pass ⟨0,0,0,0⟩)
abbrev tQ:Stmt:=top 11
abbrev Qj:Stmt:=top 12
abbrev zaw:Stmt:=top 13
abbrev zax:Stmt:=top 14
abbrev Qk:Stmt:=top 15
abbrev Mw:Stmt:=top 16
abbrev Ql:Stmt:=top 18
abbrev Tv:Stmt:=top 19
abbrev Mx:Stmt:=top 20
abbrev Mz:Stmt:=top 21
abbrev Qm:Stmt:=top 22
abbrev WL:Stmt:=top 23
abbrev MF:Stmt:=top 29
abbrev Xy:Stmt:=top 30
abbrev Tw:Stmt:=top 31
abbrev VH:Stmt:=top 32
abbrev Qn:Stmt:=top 33
abbrev Xz:Stmt:=top 34
abbrev ug:Stmt:=top 35
abbrev uV:Stmt:=top 36
abbrev YQ:Stmt:=top 37
abbrev tR:Stmt:=top 38
abbrev ZW:Stmt:=top 39
abbrev Zq:Stmt:=top 40
abbrev WM:Stmt:=top 41
abbrev Tz:Stmt:=top 42
abbrev VJ:Stmt:=top 43
abbrev XC:Stmt:=top 44
abbrev XD:Stmt:=top 45
abbrev TF:Stmt:=inClass (top 47) 0
abbrev VL:Stmt:=inClass (top 47) 1
abbrev KD:Stmt:=inClass (top 47) 2
abbrev VN:Stmt:=inClass (top 47) 3
abbrev TJ:Stmt:=inClass (top 47) 4
abbrev YS:Stmt:=inClass (top 47) 5
abbrev VP:Stmt:=inClass (top 47) 6
abbrev uQ:Stmt:=inClass (top 47) 7
abbrev YT:Stmt:=inClass (top 47) 8
abbrev VR:Stmt:=inClass (top 47) 9
abbrev Qo:Stmt:=inClass (top 47) 10
abbrev ZX:Stmt:=inClass (top 47) 12
abbrev wQ:Stmt:=top 50
abbrev uW:Stmt:=top 51
abbrev XF:Stmt:=top 52
abbrev YH:Stmt:=top 53
abbrev zc0:Stmt:=top 54
abbrev Z0:Stmt:=top 55
abbrev uh:Stmt:=top 56
abbrev YW:Stmt:=top 58
abbrev V0:Stmt:=top 59
abbrev WQ:Stmt:=top 60
abbrev wz:Stmt:=top 61
abbrev vQ:Stmt:=top 62
abbrev WR:Stmt:=top 63
abbrev S_law:Stmt:=top 64
theorem uo:zK ["book", "room", "level", "place", "longer", "row", "here"] ["book", "room"] (zp tQ):=⟨rfl,rfl,rfl,by decide +kernel,rfl,by decide +kernel,by decide +kernel⟩
theorem zd9:zK ["book", "room"] ["book", "room"] (zp Qj):=⟨rfl,rfl,rfl,by decide +kernel,rfl,by decide +kernel,by decide +kernel⟩
theorem zcn:zK ["book", "room", "number", "found"] ["book", "room", "number"] (zp zaw):=⟨rfl,rfl,rfl,by decide +kernel,rfl,by decide +kernel,by decide +kernel⟩
theorem MJ:zK ["book", "room", "known", "number"] ["book", "room"] (zp zax):=⟨rfl,rfl,rfl,by decide +kernel,rfl,by decide +kernel,by decide +kernel⟩
theorem zea:zK ["book", "number", "known"] ["book", "number", "known"] (zp Qk):=⟨rfl,rfl,rfl,by decide +kernel,rfl,by decide +kernel,by decide +kernel⟩
theorem zay:zK ["book", "number", "going", "known", "between"] ["book", "number", "going", "known"] (zp Mw):=⟨rfl,rfl,rfl,by decide +kernel,rfl,by decide +kernel,by decide +kernel⟩
theorem zeb:zK ["marks"] ["marks"] (zp Ql):=⟨rfl,rfl,rfl,by decide +kernel,rfl,by decide +kernel,by decide +kernel⟩
theorem Zr:zK ["place", "marks", "half", "table", "further"] ["place", "marks"] (zp Tv):=⟨rfl,rfl,rfl,by decide +kernel,rfl,by decide +kernel,by decide +kernel⟩
theorem Qp:zK ["table", "place", "marks", "ones", "noughts"] ["table", "place", "marks"] (zp Mx):=⟨rfl,rfl,rfl,by decide +kernel,rfl,by decide +kernel,by decide +kernel⟩
theorem Qq:zK ["table", "place", "value", "marks", "ones", "kept"] ["table", "place", "value", "marks"] (zp Mz):=⟨rfl,rfl,rfl,by decide +kernel,rfl,by decide +kernel,by decide +kernel⟩
theorem zec:zK ["table", "place", "marks"] ["table", "place", "marks"] (zp Qm):=⟨rfl,rfl,rfl,by decide +kernel,rfl,by decide +kernel,by decide +kernel⟩
theorem XH:zK ["table", "marks", "place"] ["table", "marks"] (zp WL):=⟨rfl,rfl,rfl,by decide +kernel,rfl,by decide +kernel,by decide +kernel⟩
theorem zfu:zK ["letter"] ["letter"] (zp MF):=⟨rfl,rfl,rfl,by decide +kernel,rfl,by decide +kernel,by decide +kernel⟩
theorem zed:zK ["order"] ["order"] (zp Xy):=⟨rfl,rfl,rfl,by decide +kernel,rfl,by decide +kernel,by decide +kernel⟩
theorem zhy:zK ["order", "row"] ["order", "row"] (zp Tw):=⟨rfl,rfl,rfl,by decide +kernel,rfl,by decide +kernel,by decide +kernel⟩
theorem zbs:zK ["sentence"] ["sentence"] (zp VH):=⟨rfl,rfl,rfl,by decide +kernel,rfl,by decide +kernel,by decide +kernel⟩
theorem zee:zK ["sentence"] ["sentence"] (zp Qn):=⟨rfl,rfl,rfl,by decide +kernel,rfl,by decide +kernel,by decide +kernel⟩
theorem YX:zK ["level", "found", "sentence"] ["level"] (zp Xz):=⟨rfl,rfl,rfl,by decide +kernel,rfl,by decide +kernel,by decide +kernel⟩
theorem Pz:zK ["some", "shape"] ["some"] (zp ug):=⟨rfl,rfl,rfl,by decide +kernel,rfl,by decide +kernel,by decide +kernel⟩
theorem wF:zK ["some", "level", "deep", "tuples"] ["some"] (zp uV):=⟨rfl,rfl,rfl,by decide +kernel,rfl,by decide +kernel,by decide +kernel⟩
theorem MK:zK ["order"] ["order"] (zp YQ):=⟨rfl,rfl,rfl,by decide +kernel,rfl,by decide +kernel,by decide +kernel⟩
theorem Rz:zK ["some"] ["some"] (zp tR):=⟨rfl,rfl,rfl,by decide +kernel,rfl,by decide +kernel,by decide +kernel⟩
theorem PB:zK ["order", "letter"] ["order", "letter"] (zp ZW):=⟨rfl,rfl,rfl,by decide +kernel,rfl,by decide +kernel,by decide +kernel⟩
theorem XJ:zK ["order", "sentence", "letter"] ["order", "sentence"] (zp Zq):=⟨rfl,rfl,rfl,by decide +kernel,rfl,by decide +kernel,by decide +kernel⟩
theorem zaz:zK ["order", "row"] ["order", "row"] (zp WM):=⟨rfl,rfl,rfl,by decide +kernel,rfl,by decide +kernel,by decide +kernel⟩
theorem Xc:zK ["sentence", "found", "level"] ["sentence"] (zp Tz):=⟨rfl,rfl,rfl,by decide +kernel,rfl,by decide +kernel,by decide +kernel⟩
theorem WT:zK ["sentence", "found", "part"] ["sentence"] (zp VJ):=⟨rfl,rfl,rfl,by decide +kernel,rfl,by decide +kernel,by decide +kernel⟩
theorem Wi:zK ["sentence", "order", "word", "marks", "tables"] ["sentence", "order"] (zp XC):=⟨rfl,rfl,rfl,by decide +kernel,rfl,by decide +kernel,by decide +kernel⟩
theorem Jf:zK ["word", "one", "other", "every"] ["word", "one", "other", "every"] (zp XD):=⟨rfl,rfl,rfl,by decide +kernel,rfl,by decide +kernel,by decide +kernel⟩
theorem PJ:zK ["self", "order", "marks"] ["self", "order"] (zp TF):=⟨rfl,rfl,rfl,by decide +kernel,rfl,by decide +kernel,by decide +kernel⟩
theorem zbt:zK ["self"] ["self"] (zp VL):=⟨rfl,rfl,rfl,by decide +kernel,rfl,by decide +kernel,by decide +kernel⟩
theorem zbu:zK ["self", "sentence"] ["self", "sentence"] (zp VN):=⟨rfl,rfl,rfl,by decide +kernel,rfl,by decide +kernel,by decide +kernel⟩
theorem zc1:zK ["self", "number"] ["self", "number"] (zp TJ):=⟨rfl,rfl,rfl,by decide +kernel,rfl,by decide +kernel,by decide +kernel⟩
theorem uF:zK ["self", "number", "row", "place", "value"] ["self", "number", "row"] (zp YS):=⟨rfl,rfl,rfl,by decide +kernel,rfl,by decide +kernel,by decide +kernel⟩
theorem Yj:zK ["self", "number", "found", "waiting", "here"] ["self", "number"] (zp VP):=⟨rfl,rfl,rfl,by decide +kernel,rfl,by decide +kernel,by decide +kernel⟩
theorem TQ:zK ["self", "number"] ["self", "number"] (zp uQ):=⟨rfl,rfl,rfl,by decide +kernel,rfl,by decide +kernel,by decide +kernel⟩
theorem MN:zK ["self", "number"] ["self", "number"] (zp YT):=⟨rfl,rfl,rfl,by decide +kernel,rfl,by decide +kernel,by decide +kernel⟩
theorem zbv:zK ["self", "number", "value"] ["self", "number", "value"] (zp VR):=⟨rfl,rfl,rfl,by decide +kernel,rfl,by decide +kernel,by decide +kernel⟩
theorem zef:zK ["self", "number", "place", "value"] ["self", "number", "place", "value"] (zp Qo):=⟨rfl,rfl,rfl,by decide +kernel,rfl,by decide +kernel,by decide +kernel⟩
theorem wR:zK ["self", "table", "marks", "place", "low", "high"] ["self", "table"] (zp ZX):=⟨rfl,rfl,rfl,by decide +kernel,rfl,by decide +kernel,by decide +kernel⟩
theorem Qs:zK ["book", "weights"] ["book", "weights"] (zp wQ):=⟨rfl,rfl,rfl,by decide +kernel,rfl,by decide +kernel,by decide +kernel⟩
theorem zaA:zK ["entry"] ["entry"] (zp uW):=⟨rfl,rfl,rfl,by decide +kernel,rfl,by decide +kernel,by decide +kernel⟩
theorem zeg:zK ["book", "room", "weights"] ["book", "room", "weights"] (zp XF):=⟨rfl,rfl,rfl,by decide +kernel,rfl,by decide +kernel,by decide +kernel⟩
theorem zc2:zK ["row", "weights"] ["row", "weights"] (zp YH):=⟨rfl,rfl,rfl,by decide +kernel,rfl,by decide +kernel,by decide +kernel⟩
theorem zaB:zK ["book", "room", "weights", "known", "number"] ["book", "room", "weights"] (zp zc0):=⟨rfl,rfl,rfl,by decide +kernel,rfl,by decide +kernel,by decide +kernel⟩
theorem zaC:zK ["book", "number", "weights", "known", "ways"] ["book", "number", "weights", "known"] (zp Z0):=⟨rfl,rfl,rfl,by decide +kernel,rfl,by decide +kernel,by decide +kernel⟩
theorem uZ:zK ["book", "number", "value", "weights", "known", "place", "going", "between"] ["book", "number", "value", "weights", "known"] (zp uh):=⟨rfl,rfl,rfl,by decide +kernel,rfl,by decide +kernel,by decide +kernel⟩
theorem Ve:zK ["script", "k"] ["script", "k"] (zp YW):=⟨rfl,rfl,rfl,by decide +kernel,rfl,by decide +kernel,by decide +kernel⟩
theorem vV:zK ["cell", "k", "bound", "stir", "left", "j"] ["cell", "k", "bound"] (zp V0):=⟨rfl,rfl,rfl,by decide +kernel,rfl,by decide +kernel,by decide +kernel⟩
theorem XM:zK ["cell", "limit", "found", "k"] ["cell", "limit"] (zp WQ):=⟨rfl,rfl,rfl,by decide +kernel,rfl,by decide +kernel,by decide +kernel⟩
theorem yh:zK ["script", "at", "many", "order", "kinds", "made", "k", "cell", "kind", "one", "other", "letter"] ["script", "at", "many", "order"] (zp wz):=⟨rfl,rfl,rfl,by decide +kernel,rfl,by decide +kernel,by decide +kernel⟩
theorem uG:zK ["cell", "size", "found", "k", "pair"] ["cell", "size"] (zp vQ):=⟨rfl,rfl,rfl,by decide +kernel,rfl,by decide +kernel,by decide +kernel⟩
theorem zaD:zK ["book", "room"] ["book", "room"] (zp WR):=⟨rfl,rfl,rfl,by decide +kernel,rfl,by decide +kernel,by decide +kernel⟩
theorem sc_law:zK ["script", "order", "book", "room", "weights", "told", "below", "total", "rows", "number", "here", "k", "weight", "found", "free"] ["script"] (zp S_law):=⟨rfl,rfl,rfl,by decide +kernel,rfl,by decide +kernel,by decide +kernel⟩
def xJ:List (Str×Int×Int):=[("yes", 0,0),("no", 0,0),("mark", 1,0),("not", 0,1),("and", 0,2),("or", 0,2),("either", 0,2),("if", 0,2),("some", 1,1),("each", 1,1)]
theorem zpn {α:Type}{us:List α}(h:us.length=0):us=[]:=List.length_eq_zero_iff.mp h
theorem zi5 {α:Type}{us:List α}{n:Nat}(h:us.length=n+1):∃a vs,us=a::vs/\vs.length=n:=by
 cases us with
 | nil=>cases h
 | cons a vs=>exact⟨a,vs,rfl,by simpa using h⟩
theorem TV {α:Type}{us:List α}(h:us.length=1):∃a,us=[a]:=by
 obtain⟨a,v,e,h⟩:=zi5 h
 rw[e,zpn h]
 exact⟨a,rfl⟩
theorem Xd {α:Type}{us:List α}(h:us.length=2):∃a b,us=[a,b]:=by
 obtain⟨a,v,e,h⟩:=zi5 h
 obtain⟨b,e2⟩:=TV h
 exact⟨a,b,by rw[e,e2]⟩
theorem zbw {α:Type}{us:List α}(h:us.length=3):∃a b c,us=[a,b,c]:=by
 obtain⟨a,v,e,h⟩:=zi5 h
 obtain⟨b,c,e2⟩:=Xd h
 exact⟨a,b,c,by rw[e,e2]⟩
theorem zfv {α:Type}{us:List α}(h:us.length=4):∃a b c d,us=[a,b,c,d]:=by
 obtain⟨a,v,e,h⟩:=zi5 h
 obtain⟨b,c,d,e2⟩:=zbw h
 exact⟨a,b,c,d,by rw[e,e2]⟩
theorem zpo {α:Type}{us:List α}(h:us.length=5):∃a b c d f,us=[a,b,c,d,f]:=by
 obtain⟨a,v,e,h⟩:=zi5 h
 obtain⟨b,c,d,f,e2⟩:=zfv h
 exact⟨a,b,c,d,f,by rw[e,e2]⟩
set_option genInjectivity false in
set_option genSizeOf false in
structure Ad where
 tU:Addr
 tV:FuncData
 V1:Addr
 V2:FuncData
 PL:Addr
 PN:FuncData
 PX:Addr
 P0:FuncData
 V3:Addr
 V4:FuncData
 S7:Addr
 S8:FuncData
 ur:Addr
 uw:FuncData
 wU:Addr
 wV:FuncData
 Za:Addr
 Zb:FuncData
 Xo:Addr
 Xp:FuncData
 V5:Addr
 V6:FuncData
 vW:Addr
 vX:FuncData
 Z1:Addr
 Z2:FuncData
 V7:Addr
 V8:FuncData
 Vf:Addr
 Vg:FuncData
 vG:Addr
 vH:FuncData
 vI:Addr
 vJ:FuncData
 vp:Addr
 vq:FuncData
 Wj:Addr
 Wk:FuncData
 Yk:Addr
 Yl:FuncData
 u6:Addr
 u9:FuncData
 vK:Addr
 vL:FuncData
 wA:Addr
 wB:FuncData
 v9:Addr
 uc:FuncData
 Ym:Addr
 Yn:FuncData
 Wm:Addr
 Wn:FuncData
 Xe:Addr
 Xf:FuncData
 Z4:Addr
 Z5:FuncData
 wG:Addr
 wH:FuncData
 YJ:Addr
 Wo:FuncData
 wW:Addr
 wX:FuncData
 KH:Addr
 KJ:FuncData
 Xg:Addr
 Xh:FuncData
 Wq:Addr
 Wr:FuncData
 tD:Addr
 tE:FuncData
 vM:Addr
 vN:FuncData
 zU:Addr
 zV:FuncData
 yH:Addr
 yI:FuncData
 yU:Addr
 yV:FuncData
 Z6:Addr
 Z7:FuncData
 wC:Addr
 wD:FuncData
 xK:Addr
 xM:FuncData
 vY:Addr
 vZ:FuncData
 V9:Addr
 Ua:FuncData
 Zc:Addr
 Zd:FuncData
 JB:Addr
 JC:FuncData
 S9:Addr
 Ra:FuncData
 Zt:Addr
 Zu:FuncData
 yt:Addr
 yu:FuncData
 wY:Addr
 wZ:FuncData
 Yo:Addr
 Yp:FuncData
 uH:Addr
 uI:FuncData
 tG:Addr
 tH:FuncData
 Yq:Addr
 Yr:FuncData
 a_law:Addr
 d_law:FuncData
 zm:Addr
 Ws:Addr
 Ys:Tok
 Wt:Tok
 uX:Addr
 MP:List (Str×Value)
 Yt:Tok
structure Txt (P:Program)(w:World)(K:Frag)(mg:Str->Option Value)(a:Ad):Prop where
 XQ:xg K "yes_rows" "yes_rows" tQ a.tU a.tV
 Ub:Binds K a.tV ["book", "room"] []
 Uc:mg "yes_rows"=some (.ref a.tU)
 Ud:xg K "how_many" "how_many" Qj a.V1 a.V2
 Qt:Binds K a.V2 ["book", "room"] []
 Qu:mg "how_many"=some (.ref a.V1)
 zaE:xg K "row_at" "row_at" zaw a.PL a.PN
 zeh:Binds K a.PN ["book", "room", "number"] []
 zei:mg "row_at"=some (.ref a.PL)
 zaF:xg K "counts" "counts" zax a.PX a.P0
 zej:Binds K a.P0 ["book", "room"] []
 zek:mg "counts"=some (.ref a.PX)
 Qv:xg K "count_by" "count_by" Qk a.V3 a.V4
 zaG:Binds K a.V4 ["book", "number", "known"] []
 zaH:mg "count_by"=some (.ref a.V3)
 Rb:xg K "doubled" "doubled" Mw a.S7 a.S8
 M4:Binds K a.S8 ["book", "number", "going", "known"] []
 M5:mg "doubled"=some (.ref a.S7)
 tW:xg K "all_rows" "all_rows" Ql a.ur a.uw
 Z8:Binds K a.uw ["marks"] []
 Z9:mg "all_rows"=some (.ref a.ur)
 YK:xg K "rows_with" "rows_with" Tv a.wU a.wV
 Wu:Binds K a.wV ["place", "marks"] []
 Wv:mg "rows_with"=some (.ref a.wU)
 Xq:xg K "flipped" "flipped" Mx a.Za a.Zb
 Vh:Binds K a.Zb ["table", "place", "marks"] []
 Vi:mg "flipped"=some (.ref a.Za)
 Rf:xg K "held_at" "held_at" Mz a.Xo a.Xp
 M6:Binds K a.Xp ["table", "place", "value", "marks"] []
 M7:mg "held_at"=some (.ref a.Xo)
 Qw:xg K "hangs_on" "hangs_on" Qm a.V5 a.V6
 zaI:Binds K a.V6 ["table", "place", "marks"] []
 zaJ:mg "hangs_on"=some (.ref a.V5)
 WW:xg K "first_place" "first_place" WL a.vW a.vX
 RN:Binds K a.vX ["table", "marks"] []
 RP:mg "first_place"=some (.ref a.vW)
 Rg:xg K "is_mark" "is_mark" MF a.Z1 a.Z2
 M8:Binds K a.Z2 ["letter"] []
 M9:mg "is_mark"=some (.ref a.Z1)
 Qx:xg K "is_order" "is_order" Xy a.V7 a.V8
 zaK:Binds K a.V8 ["order"] []
 zaL:mg "is_order"=some (.ref a.V7)
 zaM:xg K "is_row" "is_row" Tw a.Vf a.Vg
 zel:Binds K a.Vg ["order", "row"] []
 zem:mg "is_row"=some (.ref a.Vf)
 Xi:xg K "letters_of" "letters_of" VH a.vG a.vH
 Ue:Binds K a.vH ["sentence"] []
 Ug:mg "letters_of"=some (.ref a.vG)
 XR:xg K "parts_of" "parts_of" Qn a.vI a.vJ
 Uh:Binds K a.vJ ["sentence"] []
 Ui:mg "parts_of"=some (.ref a.vI)
 Zv:xg K "parts_of_all" "parts_of_all" Xz a.vp a.vq
 XS:Binds K a.vq ["level"] []
 X3:mg "parts_of_all"=some (.ref a.vp)
 TX:xg K "is_shaped" "is_shaped" ug a.Wj a.Wk
 KN:Binds K a.Wk ["some"] []
 KQ:mg "is_shaped"=some (.ref a.Wj)
 WX:xg K "is_sentence" "is_sentence" uV a.Yk a.Yl
 RQ:Binds K a.Yl ["some"] []
 RT:mg "is_sentence"=some (.ref a.Yk)
 YZ:xg K "must_be_order" "must_be_order" YQ a.u6 a.u9
 Uv:Binds K a.u9 ["order"] []
 Uw:mg "must_be_order"=some (.ref a.u6)
 tX:xg K "must_be_sentence" "must_be_sentence" tR a.vK a.vL
 X4:Binds K a.vL ["some"] []
 X5:mg "must_be_sentence"=some (.ref a.vK)
 Yb:xg K "must_have_mark" "must_have_mark" ZW a.wA a.wB
 Vj:Binds K a.wB ["order", "letter"] []
 Vk:mg "must_have_mark"=some (.ref a.wA)
 Zw:xg K "must_have_marks" "must_have_marks" Zq a.v9 a.uc
 Ww:Binds K a.uc ["order", "sentence"] []
 Wx:mg "must_have_marks"=some (.ref a.v9)
 WY:xg K "must_be_row" "must_be_row" WM a.Ym a.Yn
 RV:Binds K a.Yn ["order", "row"] []
 RW:mg "must_be_row"=some (.ref a.Ym)
 TY:xg K "tuples_in" "tuples_in" Tz a.Wm a.Wn
 KR:Binds K a.Wn ["sentence"] []
 KY:mg "tuples_in"=some (.ref a.Wm)
 Uj:xg K "letters_in" "letters_in" VJ a.Xe a.Xf
 Nb:Binds K a.Xf ["sentence"] []
 Nf:mg "letters_in"=some (.ref a.Xe)
 Uk:xg K "table_of" "table_of" XC a.Z4 a.Z5
 Qy:Binds K a.Z5 ["sentence", "order"] []
 Qz:mg "table_of"=some (.ref a.Z4)
 X6:xg K "table_of_two" "table_of_two" XD a.wG a.wH
 T3:Binds K a.wH ["word", "one", "other", "every"] []
 T4:mg "table_of_two"=some (.ref a.wG)
 KZ:xg K "__init__" "Book.__init__" TF a.YJ a.Wo
 K1:Binds K a.Wo ["self", "order"] []
 zen:Meth K a.zm "__init__" a.YJ
 Ng:xg K "order" "Book.order" VL a.wW a.wX
 Zx:Binds K a.wX ["self"] []
 Zy:Meth K a.zm "order" a.wW
 zeo:xg K "size" "Book.size" KD a.KH a.KJ
 zep:Binds K a.KJ ["self"] []
 zeq:Meth K a.zm "size" a.KH
 Nh:xg K "enter" "Book.enter" VN a.Xg a.Xh
 Ni:Binds K a.Xh ["self", "sentence"] []
 Nj:Meth K a.zm "enter" a.Xg
 K3:xg K "room" "Book.room" TJ a.Wq a.Wr
 K4:Binds K a.Wr ["self", "number"] []
 K5:Meth K a.zm "room" a.Wq
 Ux:xg K "worth_at" "Book.worth_at" YS a.tD a.tE
 Y0:Binds K a.tE ["self", "number", "row"] []
 Y4:Meth K a.zm "worth_at" a.tD
 Nk:xg K "below" "Book.below" VP a.vM a.vN
 Xj:Binds K a.vN ["self", "number"] []
 Xk:Meth K a.zm "below" a.vM
 Y6:xg K "must_be_room" "Book.must_be_room" uQ a.zU a.zV
 yC:Binds K a.zV ["self", "number"] []
 yD:Meth K a.zm "must_be_room" a.zU
 Uy:xg K "place_of" "Book.place_of" YT a.yH a.yI
 xO:Binds K a.yI ["self", "number"] []
 xP:Meth K a.zm "place_of" a.yH
 Nm:xg K "going" "Book.going" VR a.yU a.yV
 xu:Binds K a.yV ["self", "number", "value"] []
 xG:Meth K a.zm "going" a.yU
 zaN:xg K "led" "Book.led" Qo a.Z6 a.Z7
 Ul:Binds K a.Z7 ["self", "number", "place", "value"] []
 Um:Meth K a.zm "led" a.Z6
 Vl:xg K "room_with" "Book.room_with" ZX a.wC a.wD
 uJ:Binds K a.wD ["self", "table"] []
 uK:Meth K a.zm "room_with" a.wC
 ud:xg K "must_be_weights" "must_be_weights" wQ a.xK a.xM
 Zz:Binds K a.xM ["book", "weights"] []
 ZC:mg "must_be_weights"=some (.ref a.xK)
 W0:xg K "is_weighing" "is_weighing" uW a.vY a.vZ
 RX:Binds K a.vZ ["entry"] []
 RZ:mg "is_weighing"=some (.ref a.vY)
 QB:xg K "lightest" "lightest" XF a.V9 a.Ua
 zaO:Binds K a.Ua ["book", "room", "weights"] []
 zaP:mg "lightest"=some (.ref a.V9)
 T5:xg K "weight_of" "weight_of" YH a.Zc a.Zd
 K6:Binds K a.Zd ["row", "weights"] []
 K7:mg "weight_of"=some (.ref a.Zc)
 JD:xg K "loads" "loads" zc0 a.JB a.JC
 zc3:Binds K a.JC ["book", "room", "weights"] []
 zc4:mg "loads"=some (.ref a.JB)
 La:xg K "load_by" "load_by" Z0 a.S9 a.Ra
 zco:Binds K a.Ra ["book", "number", "weights", "known"] []
 zcp:mg "load_by"=some (.ref a.S9)
 X7:xg K "load_through" "load_through" uh a.Zt a.Zu
 T6:Binds K a.Zu ["book", "number", "value", "weights", "known"] []
 T7:mg "load_through"=some (.ref a.Zt)
 yJ:xg K "_law_cell_at" "_law_cell_at" YW a.yt a.yu
 xQ:Binds K a.yu ["script", "k"] []
 xR:mg "_law_cell_at"=some (.ref a.yt)
 yK:xg K "_law_draw" "_law_draw" V0 a.wY a.wZ
 yW:Binds K a.wZ ["cell", "k", "bound"] []
 yX:mg "_law_draw"=some (.ref a.wY)
 W2:xg K "_law_order" "_law_order" WQ a.Yo a.Yp
 R3:Binds K a.Yp ["cell", "limit"] []
 R4:mg "_law_order"=some (.ref a.Yo)
 Yc:xg K "_law_sentence" "_law_sentence" wz a.uH a.uI
 Vm:Binds K a.uI ["script", "at", "many", "order"] []
 Vn:mg "_law_sentence"=some (.ref a.uH)
 Y5:xg K "_law_weights" "_law_weights" vQ a.tG a.tH
 Uz:Binds K a.tH ["cell", "size"] []
 UG:mg "_law_weights"=some (.ref a.tG)
 Yu:xg K "_law_level" "_law_level" WR a.Yq a.Yr
 W3:Binds K a.Yr ["book", "room"] []
 W4:mg "_law_level"=some (.ref a.Yq)
 F_law:xg K "law" "law" S_law a.a_law a.d_law
 b_law:Binds K a.d_law ["script"] []
 m_law:mg "law"=some (.ref a.a_law)
 zO:Cls K a.zm
 zi6:mg "Book"=some (.ref a.zm)
 Rh:Mk K a.zm a.YJ
 yw:Wz K a.zm "marks"
 yG:Wz K a.zm "rooms"
 wI:Wz K a.zm "tables"
 yx:Wz K a.zm "numbers"
 x_law:∀(s:Shared) (u:Value),BindsTo s a.d_law ⟨[u],[]⟩ [("script", u)]
 zgI:mg "MARKS"=some (.ref a.Ws)
 zgJ:∀H,wK K H a.Ws ((["a", "b", "c", "d", "e", "f", "g", "h"]:List Str).map V.str)
 R5:mg "MOST_TUPLES"=some (.int 200 a.Ys)
 K8:mg "MOST_DEEP"=some (.int 24 a.Wt)
 T8:mg "SHAPES"=some (.ref a.uX)
 T9:zjT K P w a.uX a.MP
 Np:∀k m n,(k,m,n)∈xJ->∃p,valueAt a.MP k=some (.ref p)/\∀H,wK K H p [.int m,.int n]
 zi7:∀k,(∀e∈xJ,e.1≠k)->valueAt a.MP k=none
 R6:mg "MOST_WEIGHT"=some (.int 1000000 a.Yt)
 zk9:mg "abs"=none
 Nq:mg "all"=none
 K9:mg "enumerate"=none
 zla:mg "int"=none
 Uo:mg "isinstance"=none
 wu:mg "len"=none
 zaQ:mg "list"=none
 zer:mg "min"=none
 Yv:mg "range"=none
 zlb:mg "set"=none
 zes:mg "sorted"=none
 zlc:mg "str"=none
 zgK:mg "sum"=none
 zgL:mg "tuple"=none
 zld:mg "zip"=none
theorem zme {P:Program}{w:World}{K:Frag}{h:Heap}{mg:Str->Option Value}(X:K.In h)(G:h.Ns mainGlobals mg)
  {xZ:Addr}
  {f0 f1 f2 f3 f4 f5 f6 f7 f8 f9 f10 f11 f12 f13 f14 f15 f16 f17 f18 f19 f20 f21 f22 f23 f24 f25 f26 f27 f28 f29 f30 f31 f32 f33 f34 f35 f36 f37 f38 f39 f40 f41 f42 f43 f44 f45 f46 f47 f48 f49 f50 f51 f52 f53 f54:Addr}{d0 d1 d2 d3 d4 d5 d6 d7 d8 d9 d10 d11 d12 d13 d14 d15 d16 d17 d18 d19 d20 d21 d22 d23 d24 d25 d26 d27 d28 d29 d30 d31 d32 d33 d34 d35 d36 d37 d38 d39 d40 d41 d42 d43 d44 d45 d46 d47 d48 d49 d50 d51 d52 d53 d54:FuncData}
  {zc5:Addr}
  {zi8:Option Addr}{zet:Array Value}{zkB:Nat}{zi9:Array (Option Value)}
  {Ys:Tok}
  {Wt:Tok}
  {Nr:Addr}
  {zcq:Array DictEntry}{zhz:Nat}
  {zhA:Tok}{Ri:Addr}{zfw:Option Addr}{zaR:Array Value}{zhB:Nat}{zfx:Array (Option Value)}
  {zhC:Tok}{Rj:Addr}{zfy:Option Addr}{zaS:Array Value}{zhD:Nat}{zfz:Array (Option Value)}
  {zhE:Tok}{Rk:Addr}{zfA:Option Addr}{zaT:Array Value}{zhF:Nat}{zfB:Array (Option Value)}
  {zhG:Tok}{Rn:Addr}{zfC:Option Addr}{zaU:Array Value}{zhH:Nat}{zfD:Array (Option Value)}
  {zhI:Tok}{Ro:Addr}{zfE:Option Addr}{zaV:Array Value}{zhJ:Nat}{zfF:Array (Option Value)}
  {zhK:Tok}{Rp:Addr}{zfG:Option Addr}{zaW:Array Value}{zhL:Nat}{zfH:Array (Option Value)}
  {zhM:Tok}{Rq:Addr}{zfI:Option Addr}{zaX:Array Value}{zhN:Nat}{zfJ:Array (Option Value)}
  {zhO:Tok}{Rr:Addr}{zfK:Option Addr}{zaY:Array Value}{zhP:Nat}{zfL:Array (Option Value)}
  {zhQ:Tok}{Rt:Addr}{zfM:Option Addr}{zaZ:Array Value}{zhR:Nat}{zfN:Array (Option Value)}
  {zhS:Tok}{Ru:Addr}{zfO:Option Addr}{za0:Array Value}{zhT:Nat}{zfP:Array (Option Value)}
  {Yt:Tok}
  (zm:nsIn K mainGlobals "Book"=some (some (.ref xZ)))
  (a0:nsIn K mainGlobals "yes_rows"=some (some (.ref f0)))
  (F0:xg K "yes_rows" "yes_rows" tQ f0 d0)
  (a1:nsIn K mainGlobals "how_many"=some (some (.ref f1)))
  (F1:xg K "how_many" "how_many" Qj f1 d1)
  (a2:nsIn K mainGlobals "row_at"=some (some (.ref f2)))
  (F2:xg K "row_at" "row_at" zaw f2 d2)
  (a3:nsIn K mainGlobals "counts"=some (some (.ref f3)))
  (F3:xg K "counts" "counts" zax f3 d3)
  (a4:nsIn K mainGlobals "count_by"=some (some (.ref f4)))
  (F4:xg K "count_by" "count_by" Qk f4 d4)
  (a5:nsIn K mainGlobals "doubled"=some (some (.ref f5)))
  (F5:xg K "doubled" "doubled" Mw f5 d5)
  (a6:nsIn K mainGlobals "all_rows"=some (some (.ref f6)))
  (F6:xg K "all_rows" "all_rows" Ql f6 d6)
  (a7:nsIn K mainGlobals "rows_with"=some (some (.ref f7)))
  (F7:xg K "rows_with" "rows_with" Tv f7 d7)
  (a8:nsIn K mainGlobals "flipped"=some (some (.ref f8)))
  (F8:xg K "flipped" "flipped" Mx f8 d8)
  (a9:nsIn K mainGlobals "held_at"=some (some (.ref f9)))
  (F9:xg K "held_at" "held_at" Mz f9 d9)
  (a10:nsIn K mainGlobals "hangs_on"=some (some (.ref f10)))
  (F10:xg K "hangs_on" "hangs_on" Qm f10 d10)
  (a11:nsIn K mainGlobals "first_place"=some (some (.ref f11)))
  (F11:xg K "first_place" "first_place" WL f11 d11)
  (a12:nsIn K mainGlobals "is_mark"=some (some (.ref f12)))
  (F12:xg K "is_mark" "is_mark" MF f12 d12)
  (a13:nsIn K mainGlobals "is_order"=some (some (.ref f13)))
  (F13:xg K "is_order" "is_order" Xy f13 d13)
  (a14:nsIn K mainGlobals "is_row"=some (some (.ref f14)))
  (F14:xg K "is_row" "is_row" Tw f14 d14)
  (a15:nsIn K mainGlobals "letters_of"=some (some (.ref f15)))
  (F15:xg K "letters_of" "letters_of" VH f15 d15)
  (a16:nsIn K mainGlobals "parts_of"=some (some (.ref f16)))
  (F16:xg K "parts_of" "parts_of" Qn f16 d16)
  (a17:nsIn K mainGlobals "parts_of_all"=some (some (.ref f17)))
  (F17:xg K "parts_of_all" "parts_of_all" Xz f17 d17)
  (a18:nsIn K mainGlobals "is_shaped"=some (some (.ref f18)))
  (F18:xg K "is_shaped" "is_shaped" ug f18 d18)
  (a19:nsIn K mainGlobals "is_sentence"=some (some (.ref f19)))
  (F19:xg K "is_sentence" "is_sentence" uV f19 d19)
  (a20:nsIn K mainGlobals "must_be_order"=some (some (.ref f20)))
  (F20:xg K "must_be_order" "must_be_order" YQ f20 d20)
  (a21:nsIn K mainGlobals "must_be_sentence"=some (some (.ref f21)))
  (F21:xg K "must_be_sentence" "must_be_sentence" tR f21 d21)
  (a22:nsIn K mainGlobals "must_have_mark"=some (some (.ref f22)))
  (F22:xg K "must_have_mark" "must_have_mark" ZW f22 d22)
  (a23:nsIn K mainGlobals "must_have_marks"=some (some (.ref f23)))
  (F23:xg K "must_have_marks" "must_have_marks" Zq f23 d23)
  (a24:nsIn K mainGlobals "must_be_row"=some (some (.ref f24)))
  (F24:xg K "must_be_row" "must_be_row" WM f24 d24)
  (a25:nsIn K mainGlobals "tuples_in"=some (some (.ref f25)))
  (F25:xg K "tuples_in" "tuples_in" Tz f25 d25)
  (a26:nsIn K mainGlobals "letters_in"=some (some (.ref f26)))
  (F26:xg K "letters_in" "letters_in" VJ f26 d26)
  (a27:nsIn K mainGlobals "table_of"=some (some (.ref f27)))
  (F27:xg K "table_of" "table_of" XC f27 d27)
  (a28:nsIn K mainGlobals "table_of_two"=some (some (.ref f28)))
  (F28:xg K "table_of_two" "table_of_two" XD f28 d28)
  (a29:findIn K (.ref xZ) "__init__"=some (some (.ref f29)))
  (i29:PySem.W.isFn K (.ref f29)=true)
  (F29:xg K "__init__" "Book.__init__" TF f29 d29)
  (a30:findIn K (.ref xZ) "order"=some (some (.ref f30)))
  (i30:PySem.W.isFn K (.ref f30)=true)
  (F30:xg K "order" "Book.order" VL f30 d30)
  (a31:findIn K (.ref xZ) "size"=some (some (.ref f31)))
  (i31:PySem.W.isFn K (.ref f31)=true)
  (F31:xg K "size" "Book.size" KD f31 d31)
  (a32:findIn K (.ref xZ) "enter"=some (some (.ref f32)))
  (i32:PySem.W.isFn K (.ref f32)=true)
  (F32:xg K "enter" "Book.enter" VN f32 d32)
  (a33:findIn K (.ref xZ) "room"=some (some (.ref f33)))
  (i33:PySem.W.isFn K (.ref f33)=true)
  (F33:xg K "room" "Book.room" TJ f33 d33)
  (a34:findIn K (.ref xZ) "worth_at"=some (some (.ref f34)))
  (i34:PySem.W.isFn K (.ref f34)=true)
  (F34:xg K "worth_at" "Book.worth_at" YS f34 d34)
  (a35:findIn K (.ref xZ) "below"=some (some (.ref f35)))
  (i35:PySem.W.isFn K (.ref f35)=true)
  (F35:xg K "below" "Book.below" VP f35 d35)
  (a36:findIn K (.ref xZ) "must_be_room"=some (some (.ref f36)))
  (i36:PySem.W.isFn K (.ref f36)=true)
  (F36:xg K "must_be_room" "Book.must_be_room" uQ f36 d36)
  (a37:findIn K (.ref xZ) "place_of"=some (some (.ref f37)))
  (i37:PySem.W.isFn K (.ref f37)=true)
  (F37:xg K "place_of" "Book.place_of" YT f37 d37)
  (a38:findIn K (.ref xZ) "going"=some (some (.ref f38)))
  (i38:PySem.W.isFn K (.ref f38)=true)
  (F38:xg K "going" "Book.going" VR f38 d38)
  (a39:findIn K (.ref xZ) "led"=some (some (.ref f39)))
  (i39:PySem.W.isFn K (.ref f39)=true)
  (F39:xg K "led" "Book.led" Qo f39 d39)
  (a40:findIn K (.ref xZ) "room_with"=some (some (.ref f40)))
  (i40:PySem.W.isFn K (.ref f40)=true)
  (F40:xg K "room_with" "Book.room_with" ZX f40 d40)
  (a41:nsIn K mainGlobals "must_be_weights"=some (some (.ref f41)))
  (F41:xg K "must_be_weights" "must_be_weights" wQ f41 d41)
  (a42:nsIn K mainGlobals "is_weighing"=some (some (.ref f42)))
  (F42:xg K "is_weighing" "is_weighing" uW f42 d42)
  (a43:nsIn K mainGlobals "lightest"=some (some (.ref f43)))
  (F43:xg K "lightest" "lightest" XF f43 d43)
  (a44:nsIn K mainGlobals "weight_of"=some (some (.ref f44)))
  (F44:xg K "weight_of" "weight_of" YH f44 d44)
  (a45:nsIn K mainGlobals "loads"=some (some (.ref f45)))
  (F45:xg K "loads" "loads" zc0 f45 d45)
  (a46:nsIn K mainGlobals "load_by"=some (some (.ref f46)))
  (F46:xg K "load_by" "load_by" Z0 f46 d46)
  (a47:nsIn K mainGlobals "load_through"=some (some (.ref f47)))
  (F47:xg K "load_through" "load_through" uh f47 d47)
  (a48:nsIn K mainGlobals "_law_cell_at"=some (some (.ref f48)))
  (F48:xg K "_law_cell_at" "_law_cell_at" YW f48 d48)
  (a49:nsIn K mainGlobals "_law_draw"=some (some (.ref f49)))
  (F49:xg K "_law_draw" "_law_draw" V0 f49 d49)
  (a50:nsIn K mainGlobals "_law_order"=some (some (.ref f50)))
  (F50:xg K "_law_order" "_law_order" WQ f50 d50)
  (a51:nsIn K mainGlobals "_law_sentence"=some (some (.ref f51)))
  (F51:xg K "_law_sentence" "_law_sentence" wz f51 d51)
  (a52:nsIn K mainGlobals "_law_weights"=some (some (.ref f52)))
  (F52:xg K "_law_weights" "_law_weights" vQ f52 d52)
  (a53:nsIn K mainGlobals "_law_level"=some (some (.ref f53)))
  (F53:xg K "_law_level" "_law_level" WR f53 d53)
  (a54:nsIn K mainGlobals "law"=some (some (.ref f54)))
  (F54:xg K "law" "law" S_law f54 d54)
  (zc6:PySem.W.plainGet K xZ Str.empty=true)
  (zc7:PySem.W.hasDictIn K xZ=true)
  (zc8:PySem.W.plainOver K xZ=true)
  (zc9:findIn K (.ref xZ) "__setattr__"=some (some (.builtin "object.__setattr__")))
  (Rh:PySem.W.makesIn K xZ=true)
  (zda:PySem.W.keepIn K (.ref xZ)=true)
  (yw:findIn K (.ref xZ) "marks"=some none)
  (yG:findIn K (.ref xZ) "rooms"=some none)
  (wI:findIn K (.ref xZ) "tables"=some none)
  (yx:findIn K (.ref xZ) "numbers"=some none)
  (Ws:nsIn K mainGlobals "MARKS"=some (some (.ref zc5)))
  (zdb:K.lookup zc5=some ⟨.type "tuple", zi8,.seq zet zkB,zi9⟩)
  (zdc:zet.toList.map Rx=((["a", "b", "c", "d", "e", "f", "g", "h"]:List Str).map V.str).map some)
  (W5:nsIn K mainGlobals "MOST_TUPLES"=some (some (.int 200 Ys)))
  (Sd:nsIn K mainGlobals "MOST_DEEP"=some (some (.int 24 Wt)))
  (uX:nsIn K mainGlobals "SHAPES"=some (some (.ref Nr)))
  (za1:K.lookup Nr=some ⟨.type "dict", none,.dict zcq zhz,#[]⟩)
  (za2:zcq.toList=[⟨hashStr w "yes", .str "yes" zhA,.ref Ri⟩,⟨hashStr w "no", .str "no" zhC,.ref Rj⟩,⟨hashStr w "mark", .str "mark" zhE,.ref Rk⟩,⟨hashStr w "not", .str "not" zhG,.ref Rn⟩,⟨hashStr w "and", .str "and" zhI,.ref Ro⟩,⟨hashStr w "or", .str "or" zhK,.ref Rp⟩,⟨hashStr w "either", .str "either" zhM,.ref Rq⟩,⟨hashStr w "if", .str "if" zhO,.ref Rr⟩,⟨hashStr w "some", .str "some" zhQ,.ref Rt⟩,⟨hashStr w "each", .str "each" zhS,.ref Ru⟩])
  (za3:(Nr==sysModules)=false)
  (Lb:K.lookup Ri=some ⟨.type "tuple", zfw,.seq zaR zhB,zfx⟩)
  (Ld:zaR.toList.map Rx=[V.int 0,V.int 0].map some)
  (Le:K.lookup Rj=some ⟨.type "tuple", zfy,.seq zaS zhD,zfz⟩)
  (Lf:zaS.toList.map Rx=[V.int 0,V.int 0].map some)
  (Lg:K.lookup Rk=some ⟨.type "tuple", zfA,.seq zaT zhF,zfB⟩)
  (Lh:zaT.toList.map Rx=[V.int 1,V.int 0].map some)
  (Li:K.lookup Rn=some ⟨.type "tuple", zfC,.seq zaU zhH,zfD⟩)
  (Lj:zaU.toList.map Rx=[V.int 0,V.int 1].map some)
  (Lk:K.lookup Ro=some ⟨.type "tuple", zfE,.seq zaV zhJ,zfF⟩)
  (Ln:zaV.toList.map Rx=[V.int 0,V.int 2].map some)
  (Lp:K.lookup Rp=some ⟨.type "tuple", zfG,.seq zaW zhL,zfH⟩)
  (Lq:zaW.toList.map Rx=[V.int 0,V.int 2].map some)
  (Lr:K.lookup Rq=some ⟨.type "tuple", zfI,.seq zaX zhN,zfJ⟩)
  (Ls:zaX.toList.map Rx=[V.int 0,V.int 2].map some)
  (Lw:K.lookup Rr=some ⟨.type "tuple", zfK,.seq zaY zhP,zfL⟩)
  (Lx:zaY.toList.map Rx=[V.int 0,V.int 2].map some)
  (Ly:K.lookup Rt=some ⟨.type "tuple", zfM,.seq zaZ zhR,zfN⟩)
  (Lz:zaZ.toList.map Rx=[V.int 1,V.int 1].map some)
  (LC:K.lookup Ru=some ⟨.type "tuple", zfO,.seq za0 zhT,zfP⟩)
  (LK:za0.toList.map Rx=[V.int 1,V.int 1].map some)
  (W6:nsIn K mainGlobals "MOST_WEIGHT"=some (some (.int 1000000 Yt)))
  (zja:nsIn K mainGlobals "abs"=some none)
  (zjb:nsIn K mainGlobals "all"=some none)
  (Sg:nsIn K mainGlobals "enumerate"=some none)
  (zjc:nsIn K mainGlobals "int"=some none)
  (Uq:nsIn K mainGlobals "isinstance"=some none)
  (zjd:nsIn K mainGlobals "len"=some none)
  (zfQ:nsIn K mainGlobals "list"=some none)
  (zje:nsIn K mainGlobals "min"=some none)
  (zdd:nsIn K mainGlobals "range"=some none)
  (zjf:nsIn K mainGlobals "set"=some none)
  (za4:nsIn K mainGlobals "sorted"=some none)
  (zjg:nsIn K mainGlobals "str"=some none)
  (zjh:nsIn K mainGlobals "sum"=some none)
  (zde:nsIn K mainGlobals "tuple"=some none)
  (zji:nsIn K mainGlobals "zip"=some none) :
  ∃a:Ad,Txt P w K mg a:=by
 exact⟨⟨f0,d0,f1,d1,f2,d2,f3,d3,f4,d4,f5,d5,f6,d6,f7,d7,f8,d8,f9,d9,f10,d10,f11,d11,f12,d12,f13,d13,f14,d14,f15,d15,f16,d16,f17,d17,f18,d18,f19,d19,f20,d20,f21,d21,f22,d22,f23,d23,f24,d24,f25,d25,f26,d26,f27,d27,f28,d28,f29,d29,f30,d30,f31,d31,f32,d32,f33,d33,f34,d34,f35,d35,f36,d36,f37,d37,f38,d38,f39,d39,f40,d40,f41,d41,f42,d42,f43,d43,f44,d44,f45,d45,f46,d46,f47,d47,f48,d48,f49,d49,f50,d50,f51,d51,f52,d52,f53,d53,f54,d54,xZ,zc5,Ys,Wt,Nr,[("yes", .ref Ri),("no", .ref Rj),("mark", .ref Rk),("not", .ref Rn),("and", .ref Ro),("or", .ref Rp),("either", .ref Rq),("if", .ref Rr),("some", .ref Rt),("each", .ref Ru)],Yt⟩,{
  zi6:=mg_of X G zm
  XQ:=F0
  Ub:=F0.binds fun _ _ _ _ _ _ us hl=>by obtain⟨_,_,rfl⟩:=Xd hl;rfl
  Uc:=mg_of X G a0
  Ud:=F1
  Qt:=F1.binds fun _ _ _ _ _ _ us hl=>by obtain⟨_,_,rfl⟩:=Xd hl;rfl
  Qu:=mg_of X G a1
  zaE:=F2
  zeh:=F2.binds fun _ _ _ _ _ _ us hl=>by obtain⟨_,_,_,rfl⟩:=zbw hl;rfl
  zei:=mg_of X G a2
  zaF:=F3
  zej:=F3.binds fun _ _ _ _ _ _ us hl=>by obtain⟨_,_,rfl⟩:=Xd hl;rfl
  zek:=mg_of X G a3
  Qv:=F4
  zaG:=F4.binds fun _ _ _ _ _ _ us hl=>by obtain⟨_,_,_,rfl⟩:=zbw hl;rfl
  zaH:=mg_of X G a4
  Rb:=F5
  M4:=F5.binds fun _ _ _ _ _ _ us hl=>by obtain⟨_,_,_,_,rfl⟩:=zfv hl;rfl
  M5:=mg_of X G a5
  tW:=F6
  Z8:=F6.binds fun _ _ _ _ _ _ us hl=>by obtain⟨_,rfl⟩:=TV hl;rfl
  Z9:=mg_of X G a6
  YK:=F7
  Wu:=F7.binds fun _ _ _ _ _ _ us hl=>by obtain⟨_,_,rfl⟩:=Xd hl;rfl
  Wv:=mg_of X G a7
  Xq:=F8
  Vh:=F8.binds fun _ _ _ _ _ _ us hl=>by obtain⟨_,_,_,rfl⟩:=zbw hl;rfl
  Vi:=mg_of X G a8
  Rf:=F9
  M6:=F9.binds fun _ _ _ _ _ _ us hl=>by obtain⟨_,_,_,_,rfl⟩:=zfv hl;rfl
  M7:=mg_of X G a9
  Qw:=F10
  zaI:=F10.binds fun _ _ _ _ _ _ us hl=>by obtain⟨_,_,_,rfl⟩:=zbw hl;rfl
  zaJ:=mg_of X G a10
  WW:=F11
  RN:=F11.binds fun _ _ _ _ _ _ us hl=>by obtain⟨_,_,rfl⟩:=Xd hl;rfl
  RP:=mg_of X G a11
  Rg:=F12
  M8:=F12.binds fun _ _ _ _ _ _ us hl=>by obtain⟨_,rfl⟩:=TV hl;rfl
  M9:=mg_of X G a12
  Qx:=F13
  zaK:=F13.binds fun _ _ _ _ _ _ us hl=>by obtain⟨_,rfl⟩:=TV hl;rfl
  zaL:=mg_of X G a13
  zaM:=F14
  zel:=F14.binds fun _ _ _ _ _ _ us hl=>by obtain⟨_,_,rfl⟩:=Xd hl;rfl
  zem:=mg_of X G a14
  Xi:=F15
  Ue:=F15.binds fun _ _ _ _ _ _ us hl=>by obtain⟨_,rfl⟩:=TV hl;rfl
  Ug:=mg_of X G a15
  XR:=F16
  Uh:=F16.binds fun _ _ _ _ _ _ us hl=>by obtain⟨_,rfl⟩:=TV hl;rfl
  Ui:=mg_of X G a16
  Zv:=F17
  XS:=F17.binds fun _ _ _ _ _ _ us hl=>by obtain⟨_,rfl⟩:=TV hl;rfl
  X3:=mg_of X G a17
  TX:=F18
  KN:=F18.binds fun _ _ _ _ _ _ us hl=>by obtain⟨_,rfl⟩:=TV hl;rfl
  KQ:=mg_of X G a18
  WX:=F19
  RQ:=F19.binds fun _ _ _ _ _ _ us hl=>by obtain⟨_,rfl⟩:=TV hl;rfl
  RT:=mg_of X G a19
  YZ:=F20
  Uv:=F20.binds fun _ _ _ _ _ _ us hl=>by obtain⟨_,rfl⟩:=TV hl;rfl
  Uw:=mg_of X G a20
  tX:=F21
  X4:=F21.binds fun _ _ _ _ _ _ us hl=>by obtain⟨_,rfl⟩:=TV hl;rfl
  X5:=mg_of X G a21
  Yb:=F22
  Vj:=F22.binds fun _ _ _ _ _ _ us hl=>by obtain⟨_,_,rfl⟩:=Xd hl;rfl
  Vk:=mg_of X G a22
  Zw:=F23
  Ww:=F23.binds fun _ _ _ _ _ _ us hl=>by obtain⟨_,_,rfl⟩:=Xd hl;rfl
  Wx:=mg_of X G a23
  WY:=F24
  RV:=F24.binds fun _ _ _ _ _ _ us hl=>by obtain⟨_,_,rfl⟩:=Xd hl;rfl
  RW:=mg_of X G a24
  TY:=F25
  KR:=F25.binds fun _ _ _ _ _ _ us hl=>by obtain⟨_,rfl⟩:=TV hl;rfl
  KY:=mg_of X G a25
  Uj:=F26
  Nb:=F26.binds fun _ _ _ _ _ _ us hl=>by obtain⟨_,rfl⟩:=TV hl;rfl
  Nf:=mg_of X G a26
  Uk:=F27
  Qy:=F27.binds fun _ _ _ _ _ _ us hl=>by obtain⟨_,_,rfl⟩:=Xd hl;rfl
  Qz:=mg_of X G a27
  X6:=F28
  T3:=F28.binds fun _ _ _ _ _ _ us hl=>by obtain⟨_,_,_,_,rfl⟩:=zfv hl;rfl
  T4:=mg_of X G a28
  KZ:=F29
  K1:=F29.binds fun _ _ _ _ _ _ us hl=>by obtain⟨_,_,rfl⟩:=Xd hl;rfl
  zen:=⟨a29,i29,F29.2⟩
  Rh:=⟨Rh,a29,i29,zda⟩
  Ng:=F30
  Zx:=F30.binds fun _ _ _ _ _ _ us hl=>by obtain⟨_,rfl⟩:=TV hl;rfl
  Zy:=⟨a30,i30,F30.2⟩
  zeo:=F31
  zep:=F31.binds fun _ _ _ _ _ _ us hl=>by obtain⟨_,rfl⟩:=TV hl;rfl
  zeq:=⟨a31,i31,F31.2⟩
  Nh:=F32
  Ni:=F32.binds fun _ _ _ _ _ _ us hl=>by obtain⟨_,_,rfl⟩:=Xd hl;rfl
  Nj:=⟨a32,i32,F32.2⟩
  K3:=F33
  K4:=F33.binds fun _ _ _ _ _ _ us hl=>by obtain⟨_,_,rfl⟩:=Xd hl;rfl
  K5:=⟨a33,i33,F33.2⟩
  Ux:=F34
  Y0:=F34.binds fun _ _ _ _ _ _ us hl=>by obtain⟨_,_,_,rfl⟩:=zbw hl;rfl
  Y4:=⟨a34,i34,F34.2⟩
  Nk:=F35
  Xj:=F35.binds fun _ _ _ _ _ _ us hl=>by obtain⟨_,_,rfl⟩:=Xd hl;rfl
  Xk:=⟨a35,i35,F35.2⟩
  Y6:=F36
  yC:=F36.binds fun _ _ _ _ _ _ us hl=>by obtain⟨_,_,rfl⟩:=Xd hl;rfl
  yD:=⟨a36,i36,F36.2⟩
  Uy:=F37
  xO:=F37.binds fun _ _ _ _ _ _ us hl=>by obtain⟨_,_,rfl⟩:=Xd hl;rfl
  xP:=⟨a37,i37,F37.2⟩
  Nm:=F38
  xu:=F38.binds fun _ _ _ _ _ _ us hl=>by obtain⟨_,_,_,rfl⟩:=zbw hl;rfl
  xG:=⟨a38,i38,F38.2⟩
  zaN:=F39
  Ul:=F39.binds fun _ _ _ _ _ _ us hl=>by obtain⟨_,_,_,_,rfl⟩:=zfv hl;rfl
  Um:=⟨a39,i39,F39.2⟩
  Vl:=F40
  uJ:=F40.binds fun _ _ _ _ _ _ us hl=>by obtain⟨_,_,rfl⟩:=Xd hl;rfl
  uK:=⟨a40,i40,F40.2⟩
  ud:=F41
  Zz:=F41.binds fun _ _ _ _ _ _ us hl=>by obtain⟨_,_,rfl⟩:=Xd hl;rfl
  ZC:=mg_of X G a41
  W0:=F42
  RX:=F42.binds fun _ _ _ _ _ _ us hl=>by obtain⟨_,rfl⟩:=TV hl;rfl
  RZ:=mg_of X G a42
  QB:=F43
  zaO:=F43.binds fun _ _ _ _ _ _ us hl=>by obtain⟨_,_,_,rfl⟩:=zbw hl;rfl
  zaP:=mg_of X G a43
  T5:=F44
  K6:=F44.binds fun _ _ _ _ _ _ us hl=>by obtain⟨_,_,rfl⟩:=Xd hl;rfl
  K7:=mg_of X G a44
  JD:=F45
  zc3:=F45.binds fun _ _ _ _ _ _ us hl=>by obtain⟨_,_,_,rfl⟩:=zbw hl;rfl
  zc4:=mg_of X G a45
  La:=F46
  zco:=F46.binds fun _ _ _ _ _ _ us hl=>by obtain⟨_,_,_,_,rfl⟩:=zfv hl;rfl
  zcp:=mg_of X G a46
  X7:=F47
  T6:=F47.binds fun _ _ _ _ _ _ us hl=>by obtain⟨_,_,_,_,_,rfl⟩:=zpo hl;rfl
  T7:=mg_of X G a47
  yJ:=F48
  xQ:=F48.binds fun _ _ _ _ _ _ us hl=>by obtain⟨_,_,rfl⟩:=Xd hl;rfl
  xR:=mg_of X G a48
  yK:=F49
  yW:=F49.binds fun _ _ _ _ _ _ us hl=>by obtain⟨_,_,_,rfl⟩:=zbw hl;rfl
  yX:=mg_of X G a49
  W2:=F50
  R3:=F50.binds fun _ _ _ _ _ _ us hl=>by obtain⟨_,_,rfl⟩:=Xd hl;rfl
  R4:=mg_of X G a50
  Yc:=F51
  Vm:=F51.binds fun _ _ _ _ _ _ us hl=>by obtain⟨_,_,_,_,rfl⟩:=zfv hl;rfl
  Vn:=mg_of X G a51
  Y5:=F52
  Uz:=F52.binds fun _ _ _ _ _ _ us hl=>by obtain⟨_,_,rfl⟩:=Xd hl;rfl
  UG:=mg_of X G a52
  Yu:=F53
  W3:=F53.binds fun _ _ _ _ _ _ us hl=>by obtain⟨_,_,rfl⟩:=Xd hl;rfl
  W4:=mg_of X G a53
  F_law:=F54
  b_law:=F54.binds fun _ _ _ _ _ _ us hl=>by obtain⟨_,rfl⟩:=TV hl;rfl
  m_law:=mg_of X G a54
  zO:=⟨zc6,zc7,zc8,zc9⟩
  yw:=yw
  yG:=yG
  wI:=wI
  yx:=yx
  x_law:=by
   obtain⟨_,_,_,_,_,_,_,_,_,rfl,_,_⟩:=F54.ex
   exact fun s u=>.of_eq rfl
  zgI:=mg_of X G Ws
  zgJ:=fun H=>Td zdb zdc (by decide)
  R5:=mg_of X G W5
  K8:=mg_of X G Sd
  T8:=mg_of X G uX
  T9:=zjV za1 za2 za3 (kvs:=[("yes", .ref Ri),("no", .ref Rj),("mark", .ref Rk),("not", .ref Rn),("and", .ref Ro),("or", .ref Rp),("either", .ref Rq),("if", .ref Rr),("some", .ref Rt),("each", .ref Ru)]) (Yd (Yd (Yd (Yd (Yd (Yd (Yd (Yd (Yd (Yd (zlQ))))))))))) (by show(["yes", "no", "mark", "not", "and", "or", "either", "if", "some", "each"]:List Str).Nodup;decide +kernel)
  Np:=by
   intro k m n h
   simp only[xJ,List.mem_cons,zuC,or_false,Prod.mk.injEq] at h
   rcases h with ⟨rfl,rfl,rfl⟩ | ⟨rfl,rfl,rfl⟩ | ⟨rfl,rfl,rfl⟩ | ⟨rfl,rfl,rfl⟩ | ⟨rfl,rfl,rfl⟩ | ⟨rfl,rfl,rfl⟩ | ⟨rfl,rfl,rfl⟩ | ⟨rfl,rfl,rfl⟩ | ⟨rfl,rfl,rfl⟩ | ⟨rfl,rfl,rfl⟩
   ·exact⟨_,rfl,fun H=>Td Lb Ld (by decide)⟩
   ·exact⟨_,rfl,fun H=>Td Le Lf (by decide)⟩
   ·exact⟨_,rfl,fun H=>Td Lg Lh (by decide)⟩
   ·exact⟨_,rfl,fun H=>Td Li Lj (by decide)⟩
   ·exact⟨_,rfl,fun H=>Td Lk Ln (by decide)⟩
   ·exact⟨_,rfl,fun H=>Td Lp Lq (by decide)⟩
   ·exact⟨_,rfl,fun H=>Td Lr Ls (by decide)⟩
   ·exact⟨_,rfl,fun H=>Td Lw Lx (by decide)⟩
   ·exact⟨_,rfl,fun H=>Td Ly Lz (by decide)⟩
   ·exact⟨_,rfl,fun H=>Td LC LK (by decide)⟩
  zi7:=by
   intro k h
   refine zhb fun e he=>?_
   simp only[List.mem_cons,zuC,or_false] at he
   rcases he with rfl | rfl | rfl | rfl | rfl | rfl | rfl | rfl | rfl | rfl
   ·exact h ("yes", 0,0) (by decide +kernel)
   ·exact h ("no", 0,0) (by decide +kernel)
   ·exact h ("mark", 1,0) (by decide +kernel)
   ·exact h ("not", 0,1) (by decide +kernel)
   ·exact h ("and", 0,2) (by decide +kernel)
   ·exact h ("or", 0,2) (by decide +kernel)
   ·exact h ("either", 0,2) (by decide +kernel)
   ·exact h ("if", 0,2) (by decide +kernel)
   ·exact h ("some", 1,1) (by decide +kernel)
   ·exact h ("each", 1,1) (by decide +kernel)
  R6:=mg_of X G W6
  zk9:=mg_none_of X G zja
  Nq:=mg_none_of X G zjb
  K9:=mg_none_of X G Sg
  zla:=mg_none_of X G zjc
  Uo:=mg_none_of X G Uq
  wu:=mg_none_of X G zjd
  zaQ:=mg_none_of X G zfQ
  zer:=mg_none_of X G zje
  Yv:=mg_none_of X G zdd
  zlb:=mg_none_of X G zjf
  zes:=mg_none_of X G za4
  zlc:=mg_none_of X G zjg
  zgK:=mg_none_of X G zjh
  zgL:=mg_none_of X G zde
  zld:=mg_none_of X G zji }⟩
end K85
namespace K85
open PySem L2 Y9
section
variable {P : Program}{w : World}{K : Frag}{mg : Str -> Option Value}{a : Ad}
abbrev Txt.c0_ (T : Txt P w K mg a)(base : Heap)(k : Nat) : Prop := zA P w K mg base zX k a.ur a.uw ["marks"] Xl
abbrev Txt.c1_ (T : Txt P w K mg a)(base : Heap)(k : Nat) : Prop := zA P w K mg base zX k a.wU a.wV ["place", "marks"] tM
abbrev Txt.c2_ (T : Txt P w K mg a)(base : Heap)(k : Nat) : Prop := zA P w K mg base zX k a.Za a.Zb ["table", "place", "marks"] Xm
abbrev Txt.c3_ (T : Txt P w K mg a)(base : Heap)(k : Nat) : Prop := zA P w K mg base zX k a.yt a.yu ["script", "k"] (Pb K)
abbrev Txt.c4_ (T : Txt P w K mg a)(base : Heap)(k : Nat) : Prop := zA P w K mg base zX k a.wY a.wZ ["cell", "k", "bound"] Ma
abbrev Txt.c5_ (T : Txt P w K mg a)(base : Heap)(k : Nat) : Prop := zA P w K mg base zX k a.Z1 a.Z2 ["letter"] Va
abbrev Txt.c6_ (T : Txt P w K mg a)(base : Heap)(k : Nat) : Prop := zA P w K mg base zX k a.vG a.vH ["sentence"] YC
abbrev Txt.c7_ (T : Txt P w K mg a)(base : Heap)(k : Nat) : Prop := zA P w K mg base zX k a.vI a.vJ ["sentence"] ZS
abbrev Txt.c8_ (T : Txt P w K mg a)(base : Heap)(k : Nat) : Prop := zA P w K mg base zX k a.vp a.vq ["level"] (Xa K)
abbrev Txt.c9_ (T : Txt P w K mg a)(base : Heap)(k : Nat) : Prop := zA P w K mg base zX k a.wA a.wB ["order", "letter"] (Vx K)
abbrev Txt.zsy (T : Txt P w K mg a)(base : Heap)(k : Nat) : Prop := zA P w K mg base zX k a.wG a.wH ["word", "one", "other", "every"] zdN
abbrev Txt.zsz (T : Txt P w K mg a)(base : Heap)(k : Nat) : Prop := zA P w K mg base zX k a.Xo a.Xp ["table", "place", "value", "marks"] Pq
abbrev Txt.zsA (T : Txt P w K mg a)(base : Heap)(k : Nat) : Prop := zA P w K mg base zX k a.vW a.vX ["table", "marks"] Jw
abbrev Txt.zsB (T : Txt P w K mg a)(base : Heap)(k : Nat) : Prop := zA P w K mg base zX k a.zU a.zV ["self", "number"] (vD a.zm)
abbrev Txt.zsC (T : Txt P w K mg a)(base : Heap)(k : Nat) : Prop := zA P w K mg base zX k a.yH a.yI ["self", "number"] (ZV a.zm)
abbrev Txt.zsD (T : Txt P w K mg a)(base : Heap)(k : Nat) : Prop := zA P w K mg base zX k a.yU a.yV ["self", "number", "value"] (Xb a.zm)
abbrev Txt.zsE (T : Txt P w K mg a)(base : Heap)(k : Nat) : Prop := zA P w K mg base zX k a.vM a.vN ["self", "number"] (Tt a.zm)
abbrev Txt.zsF (T : Txt P w K mg a)(base : Heap)(k : Nat) : Prop := zA P w K mg base zX k a.wW a.wX ["self"] (tZ (yc a.zm))
abbrev Txt.zsG (T : Txt P w K mg a)(base : Heap)(k : Nat) : Prop := zA P w K mg base zX k a.yt a.yu ["script", "k"] (Jx K)
abbrev Txt.zsH (T : Txt P w K mg a)(base : Heap)(k : Nat) : Prop := zA P w K mg base zX k a.Z6 a.Z7 ["self", "number", "place", "value"] (zgD a.zm)
abbrev Txt.zsI (T : Txt P w K mg a)(base : Heap)(k : Nat) : Prop := zA P w K mg base zX k a.tU a.tV ["book", "room"] (Vc a.zm)
abbrev Txt.zsJ (T : Txt P w K mg a)(base : Heap)(k : Nat) : Prop := zA P w K mg base zX k a.vY a.vZ ["entry"] Zo
abbrev Txt.zsK (T : Txt P w K mg a)(base : Heap)(k : Nat) : Prop := zA P w K mg base zX k a.xK a.xM ["book", "weights"] (Yh a.zm K)
abbrev Txt.zsL (T : Txt P w K mg a)(base : Heap)(k : Nat) : Prop := zA P w K mg base zX k a.Zc a.Zd ["row", "weights"] (VG K)
abbrev Txt.zsM (T : Txt P w K mg a)(base : Heap)(k : Nat) : Prop := zA P w K mg base zX k a.Vf a.Vg ["order", "row"] (Jr K)
end
end K85
namespace K85
open PySem L2 Y9
section
variable {P:Program}{w:World}{K:Frag}{mg:Str->Option Value}{base:Heap}{a:Ad}{k:Nat}
theorem zeu (T:Txt P w K mg a):zA P w K mg base zX (k+1) a.ur a.uw ["marks"] Xl:=by
 refine T.tW.ok zeb (fun vs H Q E h=>?_) (fun cdv A outer s H vs Q E hr h=>?_)
 ·obtain⟨n,rfl,_⟩:=h
  rfl
 obtain⟨n,rfl,hn,q⟩:=h
 refine⟨_,(zu (zH (zM NP (zM Zi zq (zM Zi zq (pv 0))) zq))),?_⟩
 have h1:=zhd hn
 have one:1<2^10000:=zdH (k:=1) (by decide) (by decide)
 refine⟨_,rfl,1,n,rfl,rfl,one,by omega,1,1*2^n,rfl,rfl,one,by omega,_,1,rfl,rfl,?_⟩
 have e:(((1*2^(1*2^n):Nat):Int)-1)=((2^2^n-1:Nat):Int):=by
  rw[Nat.one_mul,Nat.one_mul]
  have:=Nat.two_pow_pos (2^n)
  omega
 show Q (.int (((1*2^(1*2^n):Nat):Int)-1)) H
 rw[e]
 exact q
theorem zdf (T:Txt P w K mg a):zA P w K mg base zX (k+1) a.wU a.wV ["place", "marks"] tM:=by
 refine T.YK.ok Zr (fun vs H Q E h=>?_) (fun cdv A outer s H vs Q E hr h=>?_)
 ·obtain⟨p,n,rfl,_⟩:=h
  rfl
 obtain⟨p,n,rfl,hp,hn,q⟩:=h
 refine⟨_,(zj (zN (i:=2) Zr.nd rfl (Or.inl rfl) (zM Zi zq (pv 0)))
   (zj (zN (i:=3) Zr.nd rfl (Or.inl rfl) (zM Zi (zM NP (zM Zi zq (pv 2)) zq) (pv 2)))
   (zj (uO PassesOwn.never rfl (zbJ rfl T.Yv (za (zM xW (pv 0) zq) (za (pv 1) zc))) (yR (i:=4) Zr.nd rfl (Or.inl rfl)) (zu (zN (i:=3) Zr.nd rfl (Or.inl rfl) (zM N8 (pv 3) (zM Zi (pv 3) (zM Zi zq (pv 4)))))))
   (zu (zH (pv 3)))))),?_⟩
 have one:1<2^10000:=zdH (k:=1) (by decide) (by decide)
 have h1:=zhd (n:=p) (by omega)
 have hh:2^p<2^10000:=Nat.pow_lt_pow_right (by decide) (by omega)
 have pp:=Nat.two_pow_pos (2^p)
 have e1:((1*2^(1*2^p):Nat):Int)-1=((2^2^p-1:Nat):Int):=by
  rw[Nat.one_mul,Nat.one_mul]
  omega
 have lt1:2^2^p-1<2^10000:=zul (Nat.sub_lt pp (by decide)) (zuH (by decide) (by omega))
 refine⟨_,rfl,1,p,rfl,rfl,one,by omega,?_⟩
 refine⟨_,rfl,1,1*2^p,rfl,rfl,one,by omega,_,1,rfl,rfl,_,rfl,2^2^p-1,1*2^p,congrArg V.int e1,rfl,lt1,by omega,?_⟩
 refine⟨_,rfl,_,1,rfl,rfl,_,rfl,(p:Int)+1,(n:Int),rfl,⟨by omega,by omega,by omega,by omega⟩,?_⟩
 refine ZP (fun i σ H'=>H'=H/\∃(N:Nat) (f:Option V),σ=[some (.int p),some (.int n),some (.int ((1*2^p:Nat):Int)),some (.int N),f]/\yP (p+1+i) N (fun b=>b.testBit p)) ⟨rfl,_,_,rfl,?_⟩ ?_ ?_
 ·rw[Nat.one_mul]
  exact zhc p
 ·rintro i σ H' hi ⟨rfl,N,f,rfl,tb⟩
  have hi':p+1+i<n:=by omega
  have h2:=zhd (n:=p+1+i) (by omega)
  have e2:V.int ((p:Int)+1+(i:Nat))=V.int ((p+1+i:Nat):Int):=congrArg V.int (by omega)
  have lt2:N<2^10000:=zdH (ziE tb) (zux h2 (by decide))
  refine⟨_,rfl,_,rfl,_,rfl,1,p+1+i,rfl,e2,one,by omega,N,1*2^(p+1+i),rfl,rfl,lt2,by omega,N,N*2^(1*2^(p+1+i)),rfl,rfl,?_⟩
  refine⟨rfl,_,_,rfl,?_⟩
  rw[Nat.one_mul]
  exact zfb (m:=p+1+i) (by omega) tb
 ·rintro σ H' ⟨rfl,N,f,rfl,tb⟩
  have e3:p+1+((n:Int)-((p:Int)+1)).toNat=n:=by omega
  rw[e3] at tb
  exact⟨_,rfl,q N tb⟩
theorem zfR (T:Txt P w K mg a)(vB:zA P w K mg base zX k a.wU a.wV ["place", "marks"] tM):zA P w K mg base zX (k+1) a.Za a.Zb ["table", "place", "marks"] Xm:=by
 refine T.Xq.ok Qp (fun vs H Q E h=>?_) (fun cdv A outer s H vs Q E hr h=>?_)
 ·obtain⟨N,p,n,f,rfl,_⟩:=h
  rfl
 obtain⟨N,p,n,f,rfl,hp,hn,tb,q⟩:=h
 refine⟨_,(zj (zN (i:=3) Qp.nd rfl (Or.inl rfl) (zM Jq (pv 0) (zB vB hr rfl T.Wv T.YK.2 T.Wu .nil zF (za (pv 1) (za (pv 2) zc)))))
   (zj (zN (i:=4) Qp.nd rfl (Or.inl rfl) (zM Pa (pv 0) (pv 3)))
   (zu (zH (zM N8 (zM zjW (pv 3) (zM Zi zq (pv 1))) (zM Zi (pv 4) (zM Zi zq (pv 1)))))))),?_⟩
 have one:1<2^10000:=zdH (k:=1) (by decide) (by decide)
 have h1:=zhd (n:=p) (by omega)
 have h2:=zhd (n:=n) (by omega)
 refine⟨_,rfl,_,rfl,_,rfl,p,n,rfl,hp,hn,fun R tr=>?_⟩
 refine⟨N,R,rfl,rfl,?_⟩
 refine⟨_,rfl,_,rfl,N,N&&&R,rfl,rfl,?_⟩
 have o:=Q9 tb tr
 have z:=Sx tb o
 have lt2:N ^^^ (N&&&R)<2^10000:=zdH (ziE z) (zux h2 (by decide))
 refine⟨_,rfl,_,rfl,1,p,rfl,rfl,one,by omega,N&&&R,1*2^p,rfl,rfl,_,rfl,_,rfl,1,p,rfl,rfl,one,by omega,N ^^^ (N&&&R),1*2^p,rfl,rfl,lt2,by omega,_,_,rfl,rfl,?_⟩
 refine q _ ?_
 rw[Nat.one_mul]
 exact ziF hp tb tr
theorem zfS (T:Txt P w K mg a):zA P w K mg base zX (k+1) a.yt a.yu ["script", "k"] (Pb K):=by
 refine T.yJ.ok Ve (fun vs H Q E h=>?_) (fun cdv A outer s H vs Q E hr h=>?_)
 ·obtain⟨l,ns,i,rfl,_⟩:=h
  rfl
 obtain⟨l,ns,i,rfl,hS,h0,q⟩:=h
 refine⟨_,(zj (yN (zL zbL (pv 1) (zJ zG rfl T.wu yO (za (pv 0) zc)) (zP _)) (zu (zH (yg yS (pv 0) (pv 1) (fun _ _=>rfl)))) zY)
   (zu (zH zq))),?_⟩
 refine⟨_,rfl,_,rfl,l,_,rfl,.inl hS,_,_,rfl,rfl,_,rfl,?_⟩
 refine yr (fun c=>?_) (fun c=>?_)
 ·have c':i<(((ns.map V.int).length:Nat):Int):=of_decide_eq_true c
  rw[zuc] at c'
  have hi:i.toNat<ns.length:=by omega
  have e:atI (ns.map V.int) i=some (.int ns[i.toNat]):=by
   have q:=Zg (xs:=ns.map V.int) (j:=i.toNat) (v:=.int ns[i.toNat]) (by rw[zue,zud hi];rfl)
   have ei:((i.toNat:Nat):Int)=i:=by omega
   rw[ei] at q
   exact q
  exact⟨_,rfl,_,rfl,l,_,i,_,rfl,rfl,hS,e,q _⟩
 ·exact q 0
theorem zkD (T:Txt P w K mg a):zA P w K mg base zX (k+1) a.wY a.wZ ["cell", "k", "bound"] Ma:=by
 refine T.yK.ok vV (fun vs H Q E h=>?_) (fun cdv A outer s H vs Q E hr h=>?_)
 ·obtain⟨c,m,b,rfl,_⟩:=h
  rfl
 obtain⟨c,m,b,rfl,hm,b0,b1,q⟩:=h
 refine⟨_,(zj (yN (zL zid (pv 0) (zM zlv zq zq) (zP _)) (zj (zN (i:=4) vV.nd rfl (Or.inl rfl) (pv 0))
   (zj (uO PassesOwn.never rfl (ZM rfl T.Yv (za (pv 1) zc)) (yR (i:=5) vV.nd rfl (Or.inl rfl)) (zu (zN (i:=4) vV.nd rfl (Or.inl rfl) (zM zf8 (pv 4) (pv 2)))))
   (zu (zH (zM Ze (pv 4) (pv 2)))))) zY)
   (zj (zN (i:=3) vV.nd rfl (Or.inl rfl) (zM Ze (zM NQ (zM xW (zM xW (zM Ze (pv 0) zq) (zM NQ zq (pv 1))) zq) zq) zq))
   (zj (zN (i:=3) vV.nd rfl (Or.inl rfl) (zM Ze (zM xW (zM xW (zM NQ (pv 3) (pv 3)) (zM NQ zq (pv 1))) zq) zq))
   (zu (zH (zM Ze (zM zf8 (zM Ze (zM NQ (pv 3) zq) zq) zq) (pv 2))))))),?_⟩
 refine⟨_,rfl,10,18,rfl,rfl,⟨by decide,by decide,by decide⟩,_,_,rfl,rfl,_,rfl,?_⟩
 refine yr (fun _=>?_) (fun _=>?_)
 ·refine⟨_,rfl,?_⟩
  refine⟨_,rfl,(m:Int),rfl,by omega,by omega,?_⟩
  refine ZP (fun i σ H'=>H'=H/\∃(x:Int) (f1 f2:Option V),σ=[some (.int c),some (.int m),some (.int b),f1,some (.int x),f2]) ⟨rfl,c,_,_,rfl⟩ ?_ ?_
  ·rintro i σ H' hi ⟨rfl,x,f1,f2,rfl⟩
   refine⟨_,rfl,_,rfl,x,b,rfl,rfl,⟨b0,b1⟩,?_⟩
   exact⟨rfl,x / b,_,_,rfl⟩
  ·rintro σ H' ⟨rfl,x,f1,f2,rfl⟩
   refine⟨_,rfl,_,rfl,x,b,rfl,rfl,b0,?_⟩
   exact q _ (zuT _ (by omega)) (zuQ _ b0)
 ·have p1:(0:Int)<1000000007:=by decide
  have p2:(0:Int)<2147483647:=by decide
  have p3:(0:Int)<2147483629:=by decide
  refine⟨_,rfl,c,1000000007,rfl,rfl,p1,_,rfl,1009,(m:Int),rfl,rfl,.inl ⟨by decide,by decide⟩,_,_,rfl,rfl,_,17,rfl,rfl,_,69621,rfl,rfl,.inr ⟨by decide,by decide⟩,_,2147483647,rfl,rfl,p2,?_⟩
  have z0:0<=(c%1000000007+1009*(m:Int)+17)*69621%2147483647:=zuT _ (by decide)
  have z1:(c%1000000007+1009*(m:Int)+17)*69621%2147483647<2147483647:=zuQ _ p2
  refine⟨_,rfl,_,rfl,_,_,rfl,rfl,.inl ⟨Int.lt_of_lt_of_le (by decide) z0,Int.lt_trans z1 (by decide)⟩,_,rfl,40503,(m:Int),rfl,rfl,.inl ⟨by decide,by decide⟩,_,_,rfl,rfl,_,5,rfl,rfl,_,2147483629,rfl,rfl,p3,?_⟩
  refine⟨_,rfl,_,48271,rfl,rfl,.inr ⟨by decide,by decide⟩,_,2147483647,rfl,rfl,p2,_,32,rfl,rfl,⟨by decide,by decide⟩,_,rfl,_,b,rfl,rfl,b0,?_⟩
  exact q _ (zuT _ (by omega)) (zuQ _ b0)
theorem zjj (T:Txt P w K mg a)(yL:zA P w K mg base zX k a.wY a.wZ ["cell", "k", "bound"] Ma):zA P w K mg base zX (k+1) a.Yo a.Yp ["cell", "limit"] zgo:=by
 refine T.W2.ok XM (fun vs H Q E h=>?_) (fun cdv A outer s H vs Q E hr h=>?_)
 ·obtain⟨c,n,rfl,_⟩:=h
  rfl
 obtain⟨c,n,rfl,hn,h8,q⟩:=h
 refine⟨_,(zj (zN (i:=2) XM.nd rfl (Or.inl rfl) (vg zc))
   (zj (uO PassesOwn.never rfl (ZM rfl T.Yv (za (zM xW zq (zB yL hr rfl T.yX T.yK.2 T.yW .nil zF (za (pv 0) (za zq (za (pv 1) zc))))) zc)) (yR (i:=3) XM.nd rfl (Or.inl rfl)) (zu (yq (Zh PySem.F.plainAttrs_list PySem.F.slot_list_insert PySem.F.type_list_insert zg8 (pv 2) (za (zM Ze (zB yL hr rfl T.yX T.yK.2 T.yW .nil zF (za (pv 0) (za (zM xW zq (pv 3)) (za zq zc)))) (zM xW (pv 3) zq)) (za (yg zlE vd (pv 3) (fun _ _=>rfl)) zc))))))
   (zu (zH (pv 2))))),?_⟩
 refine⟨by show 0<=sizeLine;decide,fun l hl=>?_⟩
 refine⟨_,rfl,_,rfl,c,0,(n:Int),rfl,by decide,by omega,by omega,fun r r0 r1=>?_⟩
 refine⟨1,r,rfl,rfl,1+r,rfl,by omega,by omega,?_⟩
 refine ZP (fun i σ H'=>∃(os:List Str) (f1:Option V),Same H H'/\H' l=some (.lst (os.map V.str))/\os.Nodup/\os.length=i/\(∀x∈os,x∈v8.take i)/\σ=[some (.int c),some (.int n),some (.ref l),f1])
  ⟨[],_,Tg hl _,zf,List.nodup_nil,rfl,(fun _ h=>nomatch h),rfl⟩ ?_ ?_
 ·rintro i σ H' hi ⟨os,f1,g,hl',nd,le,mem,rfl⟩
  have i8:i<8:=by omega
  obtain⟨ch,hc1,hc2⟩:=zj0 i8
  have e1:(1:Int)+(0+(i:Nat))=((1+i:Nat):Int):=by omega
  have e2:(0:Int)+(i:Nat)=((i:Nat):Int):=by omega
  refine⟨_,rfl,.inl ⟨rfl,_,zT.of hl'⟩,?_⟩
  refine⟨_,rfl,_,rfl,1,_,rfl,rfl,c,1+i,5040,congrArg (fun z=>[V.int c,V.int z,V.int 5040]) e1,by omega,by decide,by decide,fun r' s0 s1=>?_⟩
  refine⟨_,rfl,_,1,rfl,rfl,r',_,rfl,rfl,by show(0:Int)<0+(i:Nat)+1;omega,?_⟩
  refine⟨_,rfl,_,(i:Int),ch,rfl,congrArg V.int e2,by show(Str.ofString "abcdefgh").length<=sizeLine;decide,hc1,?_⟩
  have m0:0<=r'%(0+(i:Nat)+1):=zuT _ (by omega)
  have m1:r'%(0+(i:Nat)+1)<0+(i:Nat)+1:=zuQ _ (by omega)
  generalize hj:r'%(0+((i:Nat):Int)+1)=j at m0 m1
  refine⟨l,os.map V.str,j,_,rfl,by rw[<-hj],hl',m0,by rw[zuc];omega,by rw[zuc];exact zul (show os.length<9 by omega) (by decide),?_⟩
  have nm:(⟨#[ch]⟩:Str)∉os:=fun hm=>ziH hc2 (mem _ hm)
  have ml:∀x∈v8.take i,x∈v8.take (i+1):=fun x hx=>by
   rw[List.take_succ]
   exact List.mem_append_left _ hx
  have mn:(⟨#[ch]⟩:Str)∈v8.take (i+1):=by
   rw[List.take_succ,hc2]
   exact zut _ (by simp)
  refine⟨os.take j.toNat++(⟨#[ch]⟩:Str)::os.drop j.toNat,_,?_,?_,?_,?_,?_,rfl⟩
  ·exact fun b o hb=>by rw[zy (zx hb hl)];exact g b o hb
  ·rw[zf]
   simp
  ·refine List.perm_middle.nodup_iff.mpr (List.nodup_cons.mpr ⟨?_,?_⟩)
   ·rw[List.take_append_drop];exact nm
   ·rw[List.take_append_drop];exact nd
  ·rw[zuk,zuo,zuz,List.length_drop]
   omega
  ·intro x hx
   rcases List.mem_append.mp hx with z | z
   ·exact ml x (mem x (List.mem_of_mem_take z))
   ·rcases List.mem_cons.mp z with z | z
    ·rw[z];exact mn
    ·exact ml x (mem x (List.mem_of_mem_drop z))
 ·rintro σ H' ⟨os,f1,g,hl',nd,le,mem,rfl⟩
  refine⟨_,rfl,q l H' os g hl' ⟨nd,fun x hx=>List.mem_of_mem_take (mem x hx),by omega⟩ (by omega)⟩
theorem zdg (T:Txt P w K mg a)(xT:zA P w K mg base zX k a.yt a.yu ["script", "k"] (Pb K))(yL:zA P w K mg base zX k a.wY a.wZ ["cell", "k", "bound"] Ma) :
  zA P w K mg base zX (k+1) a.uH a.uI ["script", "at", "many", "order"] (KC K):=by
 refine T.Yc.ok yh (fun vs H Q E h=>?_) (fun cdv A outer s H vs Q E hr h=>?_)
 ·obtain⟨sc,ol,ns,t,m,os,rfl,_⟩:=h
  rfl
 obtain⟨sc,ol,ns,t,m,os,rfl,hS,hO,o0,o8,m0,m40,t60,q⟩:=h
 obtain⟨st0,h0⟩:∃st0,st0=(Wd wz).headD (.Pass ⟨0,0,0,0⟩):=⟨_,rfl⟩
 have hb:Wd wz=st0::(Wd wz).tail:=by rw[h0];rfl
 rw[hb]
 have hk:zcJ st0=some (Str.ofString "kinds", Qe):=by rw[h0];rfl
 refine⟨_,zj (zjZ (i:=4) hk yh.nd rfl (Or.inl rfl) (.inl rfl)) (zj (zN (i:=5) yh.nd rfl (Or.inl rfl) (vg (za (vC (za vd (za (yg yS (pv 3) (zM Ze (zB yL hr rfl T.yX T.yK.2 T.yW .nil zF (za (zB xT hr rfl T.xR T.yJ.2 T.xQ .nil zF (za (pv 0) (za (pv 1) zc))) (za zq (za zq zc)))) (zJ zG rfl T.wu yO (za (pv 3) zc))) (fun _ _=>rfl)) zc))) zc)))
   (zj (uO PassesOwn.never rfl (zbJ rfl T.Yv (za zq (za (pv 2) zc))) (yR (i:=6) yh.nd rfl (Or.inl rfl)) (zj (zN (i:=7) yh.nd rfl (Or.inl rfl) (zB xT hr rfl T.xR T.yJ.2 T.xQ .nil zF (za (pv 0) (za (zM xW (pv 1) (pv 6)) zc))))
   (zj (zN (i:=8) yh.nd rfl (Or.inl rfl) (yg yS (pv 4) (zB yL hr rfl T.yX T.yK.2 T.yW .nil zF (za (pv 7) (za zq (za zq zc)))) (fun _ _=>rfl)))
   (zj (zN (i:=9) yh.nd rfl (Or.inl rfl) (yg yS (pv 5) (zM NP (zib zeT zq) (zM Ze (zB yL hr rfl T.yX T.yK.2 T.yW .nil zF (za (pv 7) (za zq (za zq zc)))) (zJ zG rfl T.wu yO (za (pv 5) zc)))) (fun _ _=>rfl)))
   (zj (zN (i:=10) yh.nd rfl (Or.inl rfl) (yg yS (pv 5) (zM Ze (zB yL hr rfl T.yX T.yK.2 T.yW .nil zF (za (pv 7) (za zq (za zq zc)))) (zJ zG rfl T.wu yO (za (pv 5) zc))) (fun _ _=>rfl)))
   (zj (zN (i:=11) yh.nd rfl (Or.inl rfl) (yg yS (pv 3) (zM Ze (zB yL hr rfl T.yX T.yK.2 T.yW .nil zF (za (pv 7) (za zq (za zq zc)))) (zJ zG rfl T.wu yO (za (pv 3) zc))) (fun _ _=>rfl)))
   (zu (yN (PW.pt (QL (zL vf (pv 8) vd (zP _)) (U4 (zL vf (pv 8) vd (zP _))))) (zu (yq (Zh PySem.F.plainAttrs_list PySem.F.slot_list_append PySem.F.type_list_append vR (pv 5) (za (vC (za (pv 8) zc)) zc)))) (zu (yN (zL vf (pv 8) vd (zP _)) (zu (yq (Zh PySem.F.plainAttrs_list PySem.F.slot_list_append PySem.F.type_list_append vR (pv 5) (za (vC (za vd (za (pv 11) zc))) zc)))) (zu (yN (zL vf (pv 8) vd (zP _)) (zu (yq (Zh PySem.F.plainAttrs_list PySem.F.slot_list_append PySem.F.type_list_append vR (pv 5) (za (vC (za vd (za (pv 9) zc))) zc)))) (zu (yN (PW.pt (QL (zL vf (pv 8) vd (zP _)) (U4 (zL vf (pv 8) vd (zP _))))) (zu (yq (Zh PySem.F.plainAttrs_list PySem.F.slot_list_append PySem.F.type_list_append vR (pv 5) (za (vC (za (pv 8) (za (pv 11) (za (pv 9) zc)))) zc)))) (zu (yq (Zh PySem.F.plainAttrs_list PySem.F.slot_list_append PySem.F.type_list_append vR (pv 5) (za (vC (za (pv 8) (za (pv 10) (za (pv 9) zc)))) zc))))))))))))))))))
   (zu (zH (yg yS (pv 5) (zib zeT zq) (fun _ _=>rfl)))))),?_⟩
 refine⟨by show 14<=sizeLine;decide,fun kd hkd=>?_⟩
 have g1:=Tg hkd (.lst (Qe.map V.str))
 have hS1:=g1.seq hS
 have hO1:=g1.seq hO
 refine⟨_,rfl,_,rfl,_,rfl,sc,ns,(t:Int),rfl,hS1,by omega,fun c0=>?_⟩
 refine⟨c0,3,40320,rfl,by decide,by decide,by decide,fun r0 _ _=>?_⟩
 obtain⟨x0,hx0,hx0'⟩:=Kr o0 r0
 have pl:(0:Int)<((os.map V.str).length:Nat):=by rw[zuc];omega
 refine⟨_,rfl,ol,_,rfl,.inl hO1,_,_,rfl,rfl,pl,ol,_,_,.str x0,rfl,rfl,hO1,hx0',by show 2<=sizeLine;decide,fun p0 hp0=>?_⟩
 refine⟨by show 1<=sizeLine;decide,fun md hmd=>?_⟩
 have g2:=Tg hp0 (.tup [.str "mark", .str x0])
 have g3:=Tg hmd (.lst [.ref p0])
 have f0:H md=none:=(g1.trans g2).free hmd
 have nk:md≠kd:=Ne.symm (zx (g2 _ _ zf) hmd)
 have N0:zcl H (upd (upd (upd H kd (.lst (Qe.map V.str))) p0 (.tup [.str "mark", .str x0])) md (.lst [.ref p0])) os md kd [p0] 1 [.mk x0]:=by
  refine⟨?_,Few.none.push [] [x0] (fun c hc=>absurd hc zuC) (fun x hx=>.inl hx) (by show 2*1+0<=2;decide),rfl,fun p hp=>⟨.mk x0,List.mem_singleton.mpr rfl,by rw[List.mem_singleton.mp hp];exact g3 _ _ zf,hx0,zus _⟩⟩
  refine⟨g1.trans (g2.trans g3),zf,g3 _ _ (g2 _ _ zf),by simp,fun p hp=>?_⟩
  have e:p=p0:=by simpa using hp
  subst e
  exact⟨.mk x0,g3 _ _ zf,hx0,zus _⟩
 refine⟨_,rfl,1,(m:Int),rfl,⟨by omega,by omega,by omega,by omega⟩,?_⟩
 refine ZP (fun i σ H'=>∃(ps:List Addr) (ss:List Sn) (f1 f2 f3 f4 f5 f6:Option V),zcl H H' os md kd ps (i+1) ss/\ps.length=i+1/\σ=[some (.ref sc),some (.int t),some (.int m),some (.ref ol),some (.ref kd),some (.ref md),f1,f2,f3,f4,f5,f6])
  ⟨[p0],_,_,_,_,_,_,_,N0,rfl,rfl⟩ ?_ ?_
 ·rintro i σ H' hi ⟨ps,ss,f1,f2,f3,f4,f5,f6,N,lp,rfl⟩
  have M:=N.M
  have hS2:=M.old.seq hS
  have hO2:=M.old.seq hO
  have e1:(t:Int)+(1+(i:Nat))=((t+(1+i):Nat):Int):=by omega
  refine⟨_,rfl,_,rfl,_,rfl,_,_,rfl,rfl,sc,ns,_,rfl,hS2,by omega,fun c=>?_⟩
  refine⟨_,rfl,_,rfl,c,0,14,rfl,by decide,by decide,by decide,fun d d0 d1=>?_⟩
  obtain⟨jk,vk,qk1,qk2⟩:=zcL (xs:=Qe.map V.str) (i:=d) (by show -((14:Nat):Int)<=d;omega) (by show d<((14:Nat):Int);omega)
  obtain⟨kind,hkm,hkv⟩:∃kind,kind∈Qe/\vk=.str kind:=by
   rw[zue] at qk2
   cases hx:Qe[jk]? with
   | none=>rw[hx] at qk2;cases qk2
   | some x=>rw[hx] at qk2;cases qk2;exact⟨x,zuh hx,rfl⟩
  subst hkv
  refine⟨kd,_,_,_,rfl,rfl,zT.of M.kin,qk1,?_⟩
  have lm:((ps.map V.ref).length:Nat)=i+1:=by rw[zuc];exact lp
  have pm:(0:Int)<((ps.map V.ref).length:Nat):=by rw[lm];omega
  refine⟨_,rfl,1,rfl,_,rfl,c,1,2,rfl,by decide,by decide,by decide,fun d2 _ _=>?_⟩
  refine⟨_,rfl,md,_,rfl,.inl (zT.of M.mad),_,_,rfl,rfl,pm,_,_,rfl,rfl,?_⟩
  have a0:=zuT d2 (show((ps.map V.ref).length:Int)≠0 by omega)
  have a1:=zuQ d2 pm
  obtain⟨q1,hq1,hq1'⟩:=Mf (ps:=ps) (i:=-1-d2%((ps.map V.ref).length:Nat)) (by rw[lm] at a0 a1 ⊢;omega) (by rw[lm] at a0 a1 ⊢;omega)
  refine⟨md,_,_,_,rfl,rfl,zT.of M.mad,hq1',?_⟩
  refine⟨_,rfl,_,rfl,c,2,60,rfl,by decide,by decide,by decide,fun d3 _ _=>?_⟩
  refine⟨_,rfl,md,_,rfl,.inl (zT.of M.mad),_,_,rfl,rfl,pm,?_⟩
  have b0:=zuT d3 (show((ps.map V.ref).length:Int)≠0 by omega)
  have b1:=zuQ d3 pm
  obtain⟨q2,hq2,hq2'⟩:=Mf (ps:=ps) (i:=d3%((ps.map V.ref).length:Nat)) (by rw[lm] at b0 b1 ⊢;omega) (by rw[lm] at b0 b1 ⊢;omega)
  refine⟨md,_,_,_,rfl,rfl,zT.of M.mad,hq2',?_⟩
  refine⟨_,rfl,_,rfl,c,3,40320,rfl,by decide,by decide,by decide,fun d4 _ _=>?_⟩
  obtain⟨x,hx,hx'⟩:=Kr o0 d4
  refine⟨_,rfl,ol,_,rfl,.inl hO2,_,_,rfl,rfl,pl,ol,_,_,.str x,rfl,rfl,hO2,hx',?_⟩
  obtain⟨s1,s1m,s1i,s1o,s1d⟩:=N.all q1 hq1
  obtain⟨s2,s2m,s2i,s2o,s2d⟩:=N.all q2 hq2
  have no:∀c:Sn,c∈([]:List Sn)->c∈ss:=fun c hc=>absurd hc zuC
  have on:∀c:Sn,c∈[s1]->c∈ss:=fun c hc=>by rw[List.mem_singleton.mp hc];exact s1m
  have big:ps.length<sizeLine:=Nat.lt_of_le_of_lt (show ps.length<=100 by omega) (by decide)
  have zfT:(ps.map V.ref).length<sizeLine:=by rw[zuc];exact big
  have mdu:∀(p:Addr) (o:HO),H' p=none->(upd H' p o) md=some (.lst (ps.map V.ref)):=fun p o hp=>by rw[zy (zx M.mad hp)];exact M.mad
  have fin:∀(p:Addr) (xs:List V) (s':Sn),H' p=none->Sy (upd H' p (.tup xs)) s' p->s'.QK os->s'.depth<=i+1+1->Few (ss++[s']) ->
    ∃(ps':List Addr) (ss':List Sn) (f1 f2 f3 f4 f5 f6:Option V),zcl H (upd (upd H' p (.tup xs)) md (.lst (ps.map V.ref++[.ref p]))) os md kd ps' (i+1+1) ss'/\ps'.length=i+1+1 /\
     [some (.ref sc),some (.int t),some (.int m),some (.ref ol),some (.ref kd),some (.ref md),some (.int (1+(i:Nat))),some (.int c),some (.str kind),some (.ref q1),some (.ref q2),some (.str x)]=[some (.ref sc),some (.int t),some (.int m),some (.ref ol),some (.ref kd),some (.ref md),f1,f2,f3,f4,f5,f6]:=fun p xs s' hp hs ho hd fw=>by
   have:=N.push f0 hp hs ho hd nk fw
   rw[zuq] at this
   exact⟨ps++[p],_,_,_,_,_,_,_,this,by simp[lp],rfl⟩
  refine⟨_,rfl,rfl,_,rfl,yr (fun c1=>?_) (fun c1=>?_)⟩
  ·have ek:kind="yes" := by have:=of_decide_eq_true c1;cases this;rfl
   subst ek
   refine JV ⟨_,rfl,.inl ⟨rfl,_,zT.of M.mad⟩,_,rfl,by show 1<=sizeLine;decide,fun p hp=>⟨md,_,_,rfl,rfl,mdu p _ hp,zfT,?_⟩⟩
   exact fin p _ (.c0 true) hp zf trivial (by show 1<=_;omega) (N.few.push [] [] no (fun x hx=>absurd hx zuC) (by decide))
  have n1:kind ≠ "yes" := fun e=>c1 (decide_eq_true (by rw[e]))
  refine⟨_,rfl,rfl,_,rfl,yr (fun c2=>?_) (fun c2=>?_)⟩
  ·have ek:kind="no" := by have:=of_decide_eq_true c2;cases this;rfl
   subst ek
   refine⟨_,rfl,.inl ⟨rfl,_,zT.of M.mad⟩,_,rfl,by show 1<=sizeLine;decide,fun p hp=>⟨md,_,_,rfl,rfl,mdu p _ hp,zfT,?_⟩⟩
   exact fin p _ (.c0 false) hp zf trivial (by show 1<=_;omega) (N.few.push [] [] no (fun x hx=>absurd hx zuC) (by decide))
  have n2:kind ≠ "no" := fun e=>c2 (decide_eq_true (by rw[e]))
  refine⟨_,rfl,rfl,_,rfl,yr (fun c3=>?_) (fun c3=>?_)⟩
  ·have ek:kind="mark" := by have:=of_decide_eq_true c3;cases this;rfl
   subst ek
   refine⟨_,rfl,.inl ⟨rfl,_,zT.of M.mad⟩,_,rfl,by show 2<=sizeLine;decide,fun p hp=>⟨md,_,_,rfl,rfl,mdu p _ hp,zfT,?_⟩⟩
   exact fin p _ (.mk x) hp zf hx (by show 1<=_;omega) (N.few.push [] [x] no (fun x hx=>.inl hx) (by show 2*1+0<=2;decide))
  have n3:kind ≠ "mark" := fun e=>c3 (decide_eq_true (by rw[e]))
  refine⟨_,rfl,rfl,_,rfl,yr (fun c4=>?_) (fun c4=>?_)⟩
  ·have ek:kind="not" := by have:=of_decide_eq_true c4;cases this;rfl
   subst ek
   refine⟨_,rfl,.inl ⟨rfl,_,zT.of M.mad⟩,_,rfl,by show 2<=sizeLine;decide,fun p hp=>⟨md,_,_,rfl,rfl,mdu p _ hp,zfT,?_⟩⟩
   exact fin p _ (.nt s1) hp ⟨q1,zf,s1i.mono (xq.new hp _)⟩ s1o (by show 1+s1.depth<=_;omega) (N.few.push [s1] [] on (fun x hx=>.inr ⟨s1,List.mem_singleton.mpr rfl,hx⟩) (by show 2*0+1<=2;decide))
  have n4:kind ≠ "not" := fun e=>c4 (decide_eq_true (by rw[e]))
  refine⟨_,rfl,rfl,_,rfl,yr (fun c5=>?_) (fun c5=>?_)⟩
  ·have ek:kind="some" := by have:=of_decide_eq_true c5;cases this;rfl
   subst ek
   refine JV ⟨_,rfl,.inl ⟨rfl,_,zT.of M.mad⟩,_,rfl,_,rfl,_,rfl,by show 3<=sizeLine;decide,fun p hp=>⟨md,_,_,rfl,rfl,mdu p _ hp,zfT,?_⟩⟩
   exact fin p _ (.q1 true x s1) hp ⟨q1,zf,s1i.mono (xq.new hp _)⟩ ⟨hx,s1o⟩ (by show 1+s1.depth<=_;omega) (N.few.push [s1] [] on (fun x hx=>.inr ⟨s1,List.mem_singleton.mpr rfl,hx⟩) (by show 2*0+1<=2;decide))
  have n5:kind ≠ "some" := fun e=>c5 (decide_eq_true (by rw[e]))
  refine⟨_,rfl,rfl,_,rfl,yr (fun c6=>?_) (fun c6=>?_)⟩
  ·have ek:kind="each" := by have:=of_decide_eq_true c6;cases this;rfl
   subst ek
   refine⟨_,rfl,.inl ⟨rfl,_,zT.of M.mad⟩,_,rfl,_,rfl,_,rfl,by show 3<=sizeLine;decide,fun p hp=>⟨md,_,_,rfl,rfl,mdu p _ hp,zfT,?_⟩⟩
   exact fin p _ (.q1 false x s1) hp ⟨q1,zf,s1i.mono (xq.new hp _)⟩ ⟨hx,s1o⟩ (by show 1+s1.depth<=_;omega) (N.few.push [s1] [] on (fun x hx=>.inr ⟨s1,List.mem_singleton.mpr rfl,hx⟩) (by show 2*0+1<=2;decide))
  have n6:kind ≠ "each" := fun e=>c6 (decide_eq_true (by rw[e]))
  obtain⟨o,ho⟩:∃o:Fin 4,kind=w2 o:=by
   have:kind∈([Str.ofString "mark", Str.ofString "mark", Str.ofString "not", Str.ofString "and", Str.ofString "or", Str.ofString "either", Str.ofString "if", Str.ofString "and", Str.ofString "or", Str.ofString "some", Str.ofString "each", Str.ofString "yes", Str.ofString "no", Str.ofString "mark"]:List Str):=hkm
   simp only[List.mem_cons,zuC,or_false] at this
   rcases this with h | h | h | h | h | h | h | h | h | h | h | h | h | h<;>first | exact absurd h n1 | exact absurd h n2 | exact absurd h n3 | exact absurd h n4 | exact absurd h n5 | exact absurd h n6 | exact⟨0,h⟩ | exact⟨1,h⟩ | exact⟨2,h⟩ | exact⟨3,h⟩
  subst ho
  refine⟨_,rfl,.inl ⟨rfl,_,zT.of M.mad⟩,_,rfl,_,rfl,_,rfl,by show 3<=sizeLine;decide,fun p hp=>⟨md,_,_,rfl,rfl,mdu p _ hp,zfT,?_⟩⟩
  exact fin p _ (.b2 o s2 s1) hp ⟨q2,q1,zf,s2i.mono (xq.new hp _),s1i.mono (xq.new hp _)⟩ ⟨s2o,s1o⟩ (by show 1+max s2.depth s1.depth<=_;omega) (N.few.push [s2,s1] [] (fun c hc=>by rcases List.mem_cons.mp hc with rfl | hc;exact s2m;rw[List.mem_singleton.mp hc];exact s1m) (fun x hx=>.inr ((List.mem_append.mp hx).elim (fun z=>⟨s2,zuv,z⟩) (fun z=>⟨s1,zun _ (List.mem_singleton.mpr rfl),z⟩))) (by show 2*0+2<=2;decide))
 ·rintro σ H' ⟨ps,ss,f1,f2,f3,f4,f5,f6,N,lp,rfl⟩
  have M:=N.M
  obtain⟨p,hp,hp'⟩:=Mf (ps:=ps) (i:=-1) (by omega) (by omega)
  obtain⟨s',z0,z1,z2,z3⟩:=N.all p hp
  obtain⟨P',w1,w2⟩:=N.few.last z0
  rw[N.len,lp] at w1
  have e:((m:Int)-1).toNat+1=m:=by omega
  rw[e] at z3
  exact⟨_,rfl,1,rfl,md,_,-1,_,rfl,rfl,zT.of M.mad,hp',q p H' s' M.old z1 z2 z3 ⟨P',by omega,w2⟩⟩
theorem zfU (T:Txt P w K mg a):zA P w K mg base zX (k+1) a.Z1 a.Z2 ["letter"] Va:=by
 refine T.Rg.ok zfu (fun vs H Q E h=>?_) (fun cdv A outer s H vs Q E hr h=>?_)
 ·obtain⟨x,rfl,_⟩:=h
  rfl
 obtain⟨x,rfl,q⟩:=h
 refine⟨_,(zu (zH (uy Sv (pv 0) (Wb (v:=.ref a.Ws) rfl T.zgI rfl) (by with_unfolding_all rfl)))),?_⟩
 refine⟨_,rfl,a.Ws,v8.map V.str,rfl,.inr (T.zgJ H),rfl,W9 _,?_⟩
 show Q (.bl (inV (.str x) (v8.map V.str))) H
 rw[zdK]
 exact q
theorem zew (T:Txt P w K mg a)(LQ:zA P w K mg base zX k a.Z1 a.Z2 ["letter"] Va):zA P w K mg base zX (k+1) a.V7 a.V8 ["order"] (zbY K):=by
 refine T.Qx.ok zed (fun vs H Q E h=>?_) (fun cdv A outer s H vs Q E hr h=>?_)
 ·obtain⟨l,os,rfl,_⟩:=h
  rfl
 obtain⟨l,os,rfl,hq,h100,q⟩:=h
 refine⟨_,(zu (zH (JK (uy zbM (zJ zG rfl T.wu yO (za (pv 0) zc)) zq (zP _)) (JK (zJ (YB rfl) rfl T.Nq Tc (za (tL (ZK:=zp Xy) (js:=[]) rfl (by show YL (zp Xy) _ "letter" [];exact⟨rfl,by decide +kernel,by decide +kernel,rfl,by decide +kernel,by decide +kernel,by decide +kernel⟩) rfl (xr (pv 0)) (by show ∀j∈([]:List Nat),j<1;decide) (fun cl C s₂ H₂ fp=>(zB LQ hr rfl T.M9 T.Rg.2 T.M8 .nil zF (za (pv 0) zc)))) zc)) (zcy (uy vf (zJ call_len_set' rfl T.wu yO (za (Sq (ziz rfl) rfl T.zlb zlP (za (pv 0) zc)) zc)) (zJ zG rfl T.wu yO (za (pv 0) zc)) (zP _))))))),?_⟩
 have hlen:(os.map V.str).length=os.length:=zuc _
 refine⟨_,rfl,l,_,rfl,.inl hq,_,_,rfl,rfl,_,rfl,yr (fun c=>?_) (fun c=>?_)⟩
 ·have c':0<os.length:=by have:=of_decide_eq_true c;rw[hlen] at this;omega
  refine⟨_,rfl,l,rfl,⟨_,hq⟩,zcM (fun x v=>v=(match x with | .str y=>.bl (decide (y∈v8)) | _=>.non)) hq (by rw[hlen];exact zuu (zQ (by omega))) ?_ (zgq Ks) ?_⟩
  ·intro i x H' hx g
   rw[zue] at hx
   cases ho:os[i]? with
   | none=>rw[ho] at hx;cases hx
   | some y =>
    rw[ho] at hx
    cases hx
    exact⟨_,rfl,y,rfl,rfl,g⟩
  ·intro ys H' p hr' g hp
   have e:=Mg (f:=fun x=>match x with | .str y=>.bl (decide (y∈v8)) | _=>.non) hr'
   rw[zuN] at e
   have e2:ys=(os.map fun y=>decide (y∈v8)).map V.bl:=by rw[e,zuN];rfl
   subst e2
   have g1:=Same.new hp (.lst ((os.map fun y=>decide (y∈v8)).map V.bl))
   refine⟨p,_,rfl,zT.of zf,_,rfl,yr (fun c2=>?_) (fun c2=>?_)⟩
   ·have hq2:=(g.trans g1).seq hq
    refine⟨_,rfl,l,os,rfl,hq2,h100,fun z hz=>⟨z,_,rfl,zf,?_⟩⟩
    have g2:=Same.new hz (zjS P w z (dd os).length)
    refine⟨_,rfl,l,_,rfl,.inl (g2.seq hq2),rfl,?_⟩
    have e3:decide (V.int ((dd os).length:Nat)=V.int ((os.map V.str).length:Nat))=zcP os:=by
     unfold zcP
     have c2':os.all (fun x=>decide (x∈v8))=true:=by rw[List.all_map] at c2;exact c2
     rw[decide_eq_true c',c2',hlen]
     by_cases nd:os.Nodup
     ·rw[decide_eq_true nd,ziv nd];simp
     ·have:=zlL nd
      rw[decide_eq_false nd,decide_eq_false (fun z=>by injection z with z;omega)];rfl
    rw[e3]
    exact q _ ((g.trans g1).trans g2)
   ·have e4:zcP os=false:=by
     unfold zcP
     have c2':os.all (fun x=>decide (x∈v8))=false:=by
      rw[List.all_map] at c2
      exact Bool.eq_false_iff.mpr c2
     rw[c2',Bool.false_and,Bool.and_false]
    rw[<-e4]
    exact q _ (g.trans g1)
 ·have e4:zcP os=false:=by
   unfold zcP
   rw[decide_eq_false (fun z=>c (decide_eq_true (by rw[hlen];omega))),Bool.false_and]
  rw[<-e4]
  exact q _ (Same.refl _)
theorem zbx (T:Txt P w K mg a):zA P w K mg base zX (k+1) a.vG a.vH ["sentence"] YC:=by
 refine T.Xi.ok zbs (fun vs H Q E h=>?_) (fun cdv A outer s H vs Q E hr h=>?_)
 ·obtain⟨p,x,m,n,rest,rfl,_⟩:=h
  rfl
 obtain⟨p,x,m,n,rest,rfl,hp,hm,hl,q⟩:=h
 refine⟨_,(zu (zH (QX zik (pv 0) (Ss zq) (Ss (zM xW zq (yg vh (yg (zcH T.T9) (Wb (v:=.ref a.uX) rfl T.T8 rfl) (yg vh (pv 0) zq (fun _ _=>rfl)) (fun _ _=>rfl)) zq (fun _ _=>rfl))))))),?_⟩
 obtain⟨pt,hv,hpt⟩:=T.Np x m n hm
 refine⟨_,rfl,1,rfl,_,rfl,p,_,0,_,rfl,rfl,wK.of hp,at0,x,.ref pt,.ref pt,rfl,rfl,hv,rfl,pt,_,0,_,rfl,rfl,hpt H,at0,1,(m:Int),rfl,rfl,_,rfl,p,_,rfl,wK.of hp,J7 (by decide),fun z hz=>?_⟩
 rw[ziI hl]
 exact q z hz
theorem zex (T:Txt P w K mg a):zA P w K mg base zX (k+1) a.vI a.vJ ["sentence"] ZS:=by
 refine T.XR.ok zee (fun vs H Q E h=>?_) (fun cdv A outer s H vs Q E hr h=>?_)
 ·obtain⟨p,x,m,n,rest,rfl,_⟩:=h
  rfl
 obtain⟨p,x,m,n,rest,rfl,hp,hm,hl,q⟩:=h
 refine⟨_,(zu (zH (QX zik (pv 0) (Ss (zM xW zq (yg vh (yg (zcH T.T9) (Wb (v:=.ref a.uX) rfl T.T8 rfl) (yg vh (pv 0) zq (fun _ _=>rfl)) (fun _ _=>rfl)) zq (fun _ _=>rfl)))) zge))),?_⟩
 obtain⟨pt,hv,hpt⟩:=T.Np x m n hm
 refine⟨_,rfl,_,rfl,p,_,0,_,rfl,rfl,wK.of hp,at0,x,.ref pt,.ref pt,rfl,rfl,hv,rfl,pt,_,0,_,rfl,rfl,hpt H,at0,1,(m:Int),rfl,rfl,_,rfl,p,_,rfl,wK.of hp,J7 (by omega),fun z hz=>?_⟩
 rw[ziJ hl]
 exact q z hz
theorem Jg (T:Txt P w K mg a)(ux:zA P w K mg base zX k a.vI a.vJ ["sentence"] ZS):zA P w K mg base zX (k+1) a.vp a.vq ["level"] (Xa K):=by
 refine T.Zv.ok YX (fun vs H Q E h=>?_) (fun cdv A outer s H vs Q E hr h=>?_)
 ·obtain⟨l,ss,ps,rfl,_⟩:=h
  rfl
 obtain⟨l,ss,ps,rfl,hl,hp,hz,q⟩:=h
 refine⟨_,(zj (zN (i:=1) YX.nd rfl (Or.inl rfl) (vg zc))
   (zj (uO PassesOwn.never rfl (xr (pv 0)) (yR (i:=2) YX.nd rfl (Or.inl rfl)) (zu (yq (Zh PySem.F.plainAttrs_list PySem.F.slot_list_extend PySem.F.type_list_extend JZ (pv 1) (za (zB ux hr rfl T.Ui T.XR.2 T.Uh .nil zF (za (pv 2) zc)) zc)))))
   (zu (zH (pv 1))))),?_⟩
 have pl:=yp hp
 refine⟨by show 0<=sizeLine;decide,fun f hf=>?_⟩
 have g0:=Same.new hf (.lst [])
 refine⟨_,rfl,l,rfl,⟨_,g0.seq hl⟩,?_⟩
 refine Yy (xs:=ps.map V.ref) (fun i σ H'=>∃(qs:List Addr) (f1:Option V),Same H H'/\H' f=some (.lst (qs.map V.ref))/\Paired (Sy H') ((ss.take i).flatMap Sn.parts) qs/\qs.length<=2*i/\i<=ss.length/\σ=[some (.ref l),some (.ref f),f1])
  ⟨[],_,g0,zf,.nil,by simp,zuy _,rfl⟩ ?_ ?_ ?_
 ·rintro i σ H' _ ⟨qs,f1,g,_⟩
  exact g.seq hl
 ·rintro i x σ H' hx ⟨qs,f1,g,hf',hqs,lq,li,rfl⟩
  rw[zue] at hx
  cases ho:ps[i]? with
  | none=>rw[ho] at hx;cases hx
  | some p =>
   rw[ho] at hx
   cases hx
   obtain⟨sn,hsn,isp⟩:=Pg hp ho
   have hlt:=(zuf.mp hsn).1
   obtain⟨zs,c1,c2,c3,c4,c5⟩:=Pk (isp.mono (xq.of g))
   have lz:=yp c2
   have lp2:=Sn.Pj sn
   refine⟨_,rfl,.inl ⟨rfl,_,zT.of hf'⟩,_,rfl,p,sn.word,sn.letters.length,sn.parts.length,_,rfl,c1,Zj sn,c3,fun b hb=>?_⟩
   rw[c5]
   have nfb:f≠b:=zx hf' hb
   have hf2:(upd H' b (.tup (zs.map V.ref))) f=some (.lst (qs.map V.ref)):=by rw[zy nfb];exact hf'
   refine⟨f,b,qs.map V.ref,zs.map V.ref,rfl,rfl,hf2,?_,?_,?_⟩
   ·exact wK.of zf
   ·rw[zuc,zuc]
    exact zuu (zQ (by omega))
   ·refine⟨qs++zs,_,(g.trans (Same.new hb _)).over hf _,by rw[zf,zuq],?_,?_,hlt,rfl⟩
    ·rw[yZ hsn,List.flatMap_append,List.flatMap_singleton]
     have t1:xq H' (upd (upd H' b (.tup (zs.map V.ref))) f (.lst (qs.map V.ref++zs.map V.ref))):=(xq.new hb _).trans (xq.lst hf2 _)
     exact ZR (xX (fun _ _ z=>z.mono t1) hqs) (xX (fun _ _ z=>z.mono t1) c2)
    ·rw[zuk];omega
 ·rintro σ H' ⟨qs,f1,g,hf',hqs,lq,li,rfl⟩
  rw[zuc,<-pl,zuE] at hqs
  exact⟨_,rfl,q f H' qs g hf hf' hqs⟩
theorem zdh (T:Txt P w K mg a)(LQ:zA P w K mg base zX k a.Z1 a.Z2 ["letter"] Va)(Ur:zA P w K mg base zX k a.vG a.vH ["sentence"] YC)(ux:zA P w K mg base zX k a.vI a.vJ ["sentence"] ZS) :
  zA P w K mg base zX (k+1) a.Wj a.Wk ["some"] J9:=by
 refine T.TX.ok Pz (fun vs H Q E h=>?_) (fun cdv A outer s H vs Q E hr h=>?_)
 ·obtain⟨p,s,rfl,_⟩:=h
  rfl
 obtain⟨p,sn,rfl,isp,hle,q⟩:=h
 refine⟨_,(zj (yN (PW.pt (QL (zL vf (zJ zG rfl T.wu yO (za (pv 0) zc)) zq (zP _)) (QL (U5 (Yz (zJ Km rfl T.Uo RG (za (yg vh (pv 0) zq (fun _ _=>rfl)) (za (zf7 (v:=.ty "str") rfl T.zlc zlO rfl) zc))) (fun _=>rfl))) (U4 (zL (zbo T.T9) (yg vh (pv 0) zq (fun _ _=>rfl)) (Wb (v:=.ref a.uX) rfl T.T8 rfl) (by with_unfolding_all rfl)))))) (zu (zH Ut)) zY)
   (zj (zN (i:=1) Pz.nd rfl (Or.inl rfl) (yg (zcH T.T9) (Wb (v:=.ref a.uX) rfl T.T8 rfl) (yg vh (pv 0) zq (fun _ _=>rfl)) (fun _ _=>rfl)))
   (zj (yN (zL Kf (zJ zG rfl T.wu yO (za (pv 0) zc)) (zM xW (zM xW zq (yg vh (pv 1) zq (fun _ _=>rfl))) (yg vh (pv 1) zq (fun _ _=>rfl))) (zP _)) (zu (zH Ut)) zY)
   (zj (yN (U5 (Yz (zJ (YB rfl) rfl T.Nq Tc (za (tL (ZK:=zp ug) (js:=[]) rfl (by show YL (zp ug) _ "letter" [];exact⟨rfl,by decide +kernel,by decide +kernel,rfl,by decide +kernel,by decide +kernel,by decide +kernel⟩) rfl (JN (zB Ur hr rfl T.Ug T.Xi.2 T.Ue .nil zF (za (pv 0) zc))) (by show ∀j∈([]:List Nat),j<2;decide) (fun cl C s₂ H₂ fp=>(zB LQ hr rfl T.M9 T.Rg.2 T.M8 .nil zF (za (pv 0) zc)))) zc)) (fun _=>rfl))) (zu (zH Ut)) zY)
   (zu (zH (zJ (YB rfl) rfl T.Nq Tc (za (tL (ZK:=zp ug) (js:=[]) rfl (by show YL (zp ug) _ "part" [];exact⟨rfl,by decide +kernel,by decide +kernel,rfl,by decide +kernel,by decide +kernel,by decide +kernel⟩) rfl (JN (zB ux hr rfl T.Ui T.XR.2 T.Uh .nil zF (za (pv 0) zc))) (by show ∀j∈([]:List Nat),j<2;decide) (fun cl C s₂ H₂ fp=>(zJ (zcN (K:=K) rfl) rfl T.Uo RG (za (pv 0) (za (zf7 (v:=.ty "tuple") rfl T.zgL ziB rfl) zc))))) zc)))))))),?_⟩
 obtain⟨zs,c1,c2,c3,c4,c5⟩:=Pk isp
 have lz:=yp c2
 obtain⟨pt,hv,hpt⟩:=T.Np _ _ _ (Zj sn)
 have lp2:=Sn.Pj sn
 have ll1:=Sn.J8 sn
 refine⟨_,rfl,p,_,rfl,.inr (wK.of c1),rfl,_,rfl,yr (fun c=>?_) (fun _=>?_)⟩
 ·exfalso
  have:=of_decide_eq_true c
  injection this with this
  rw[zuo] at this
  omega
 refine⟨_,rfl,p,_,0,_,rfl,rfl,wK.of c1,at0,_,_,_,true,rfl,.str sn.word,rfl,_,rfl,Vu ?_⟩
 refine⟨_,rfl,p,_,0,_,rfl,rfl,wK.of c1,at0,sn.word,rfl,rfl,_,rfl,?_⟩
 rw[hv]
 refine Vu ?_
 refine⟨_,rfl,p,_,0,_,rfl,rfl,wK.of c1,at0,sn.word,.ref pt,.ref pt,rfl,rfl,hv,rfl,?_⟩
 refine⟨_,rfl,p,_,rfl,.inr (wK.of c1),_,rfl,pt,_,0,_,rfl,rfl,hpt H,at0,1,_,rfl,rfl,_,rfl,pt,_,1,_,rfl,rfl,hpt H,at1,_,_,rfl,rfl,rfl,_,rfl,yr (fun c=>?_) (fun _=>?_)⟩
 ·exfalso
  have z:V.int ((VC sn zs).length:Nat)=V.int (1+((sn.letters.length:Nat):Int)+((sn.parts.length:Nat):Int)):=by
   congr 1
   show(((V.str sn.word::(sn.letters.map V.str++zs.map V.ref)).length:Nat):Int)=_
   rw[zuo,c3]
   omega
  have c':(!decide (V.int ((VC sn zs).length:Nat)=V.int (1+((sn.letters.length:Nat):Int)+((sn.parts.length:Nat):Int))))=true:=c
  rw[decide_eq_true z] at c'
  cases c'
 refine⟨_,rfl,p,sn.word,sn.letters.length,sn.parts.length,_,rfl,c1,Zj sn,c3,fun b hb=>?_⟩
 rw[c4]
 have g1:=Same.new hb (.tup (sn.letters.map V.str))
 refine⟨b,rfl,⟨_,wK.of zf⟩,zgp (xs:=sn.letters.map V.str) (fun _ v=>v=.bl true) (wK.of zf) (by rw[zuc];exact zuu (zQ (by omega))) ?_ (zgq Ks) ?_⟩
 ·intro i x H' hx g
  rw[zue] at hx
  cases ho:sn.letters[i]? with
  | none=>rw[ho] at hx;cases hx
  | some y =>
   rw[ho] at hx
   cases hx
   refine⟨_,rfl,y,rfl,?_,g⟩
   rw[decide_eq_true (hle y (zuh ho))]
 intro ys H' p2 hr' g hp2
 have e:=Mg (f:=fun _=>.bl true) hr'
 have e2:ys=(sn.letters.map fun _=>true).map V.bl:=by rw[e,zuN,zuN];rfl
 subst e2
 have g2:=Same.new hp2 (.lst ((sn.letters.map fun _=>true).map V.bl))
 have ea:(sn.letters.map fun _=>true).all id=true:=by rw[List.all_map,zuF];exact fun _ _=>rfl
 refine⟨p2,_,rfl,zT.of zf,_,rfl,?_⟩
 rw[ea]
 refine Vu ?_
 have gg:=(g1.trans g).trans g2
 have c1':=gg _ _ c1
 refine⟨_,rfl,p,sn.word,sn.letters.length,sn.parts.length,_,rfl,c1',Zj sn,c3,fun b3 hb3=>?_⟩
 rw[c5]
 have g3:=Same.new hb3 (.tup (zs.map V.ref))
 refine⟨b3,rfl,⟨_,wK.of zf⟩,zgp (xs:=zs.map V.ref) (fun _ v=>v=.bl true) (wK.of zf) (by rw[zuc];exact zuu (zQ (by omega))) ?_ ?_ ?_⟩
 ·intro i x H4 hx g4
  rw[zue] at hx
  cases ho:zs[i]? with
  | none=>rw[ho] at hx;cases hx
  | some y =>
   rw[ho] at hx
   cases hx
   obtain⟨sy,_,iy⟩:=Pg c2 ho
   obtain⟨ws,d1,_⟩:=Pk iy
   have d1':=((gg.trans g3).trans g4) _ _ d1
   exact⟨_,rfl,_,_,_,true,rfl,.tup d1',rfl,rfl,g4⟩
 ·rintro σ' H' Q1 Q2 hQ ⟨v,e,x,T',t,b',h1,h2,h3,h4⟩
  exact⟨v,e,x,T',t,b',h1,h2,h3,hQ _ _ h4⟩
 ·intro ys H4 p4 hr4 g4 hp4
  have e:=Mg (f:=fun _=>.bl true) hr4
  have e2:ys=(zs.map fun _=>true).map V.bl:=by rw[e,zuN,zuN];rfl
  subst e2
  have ea:(zs.map fun _=>true).all id=true:=by rw[List.all_map,zuF];exact fun _ _=>rfl
  refine⟨p4,_,rfl,zT.of zf,?_⟩
  rw[ea]
  exact q _ (((gg.trans g3).trans g4).trans (Same.new hp4 _))
theorem za5 (T:Txt P w K mg a)(zey:zA P w K mg base zX k a.Wj a.Wk ["some"] J9)(X8:zA P w K mg base zX k a.vp a.vq ["level"] (Xa K)) :
  zA P w K mg base zX (k+1) a.Yk a.Yl ["some"] zgs:=by
 refine T.WX.ok wF (fun vs H Q E h=>?_) (fun cdv A outer s H vs Q E hr h=>?_)
 ·obtain⟨p,s,rfl,_⟩:=h
  rfl
 obtain⟨p,sn,rfl,isp,hin,hc,hd,q⟩:=h
 refine⟨_,(zj (zN (i:=1) wF.nd rfl (Or.inl rfl) (vg (za (pv 0) zc)))
   (zj (zN (i:=2) wF.nd rfl (Or.inl rfl) zq)
   (zj (zN (i:=3) wF.nd rfl (Or.inl rfl) zq)
   (zj (QS PassesOwn.never (zL zbM (zJ zG rfl T.wu yO (za (pv 1) zc)) zq (zP _)) (zj (zeP (i:=2) wF.nd rfl (Or.inl rfl) zq zcz)
   (zj (zeP (i:=3) wF.nd rfl (Or.inl rfl) (zJ zG rfl T.wu yO (za (pv 1) zc)) zcz)
   (zj (yN (PW.pt (QL (zL zbM (pv 2) (Wb (v:=.int 24) rfl T.K8 ⟨_,rfl⟩) (zP _)) (U4 (zL zbM (pv 3) (Wb (v:=.int 200) rfl T.R5 ⟨_,rfl⟩) (zP _))))) (zu (zH Ut)) zY)
   (zj (yN (U5 (Yz (zJ (YB rfl) rfl T.Nq Tc (za (tL (ZK:=zp uV) (js:=[]) rfl (by show YL (zp uV) _ "part" [];exact⟨rfl,by decide +kernel,by decide +kernel,rfl,by decide +kernel,by decide +kernel,by decide +kernel⟩) rfl (xr (pv 1)) (by show ∀j∈([]:List Nat),j<4;decide) (fun cl C s₂ H₂ fp=>(zB zey hr rfl T.KQ T.TX.2 T.KN .nil zF (za (pv 0) zc)))) zc)) (fun _=>rfl))) (zu (zH Ut)) zY)
   (zu (zN (i:=1) wF.nd rfl (Or.inl rfl) (zB X8 hr rfl T.X3 T.Zv.2 T.XS .nil zF (za (pv 1) zc)))))))))
   (zu (zH Ut)))))),?_⟩
 refine⟨_,rfl,by show 1<=sizeLine;decide,fun l0 hl0=>?_⟩
 have g0:=Same.new hl0 (.lst [.ref p])
 refine⟨fun m σ H'=>∃(ss:List Sn) (ps:List Addr) (l:Addr) (d t:Nat),m=cnt ss/\Same H H'/\H' l=some (.lst (ps.map V.ref))/\Paired (Sy H') ss ps/\(∀u∈ss,u.QK v8/\d+u.depth<=24)/\t+cnt ss<=200/\σ=[some (.ref p),some (.ref l),some (.int d),some (.int t)],
  ⟨_,[sn],[p],l0,0,0,rfl,g0,zf,.cons (isp.mono (xq.of g0)) .nil,?_,?_,rfl⟩,?_⟩
 ·intro u hu
  have e:u=sn:=by simpa using hu
  subst e
  exact⟨hin,by omega⟩
 ·show 0+(sn.count+0)<=200
  omega
 rintro m σ H' ⟨ss,ps,l,d,t,rfl,g,hl,hp,hi,ht,rfl⟩
 have lp:=yp hp
 have le:(ps.map V.ref).length=ss.length:=by rw[zuc];exact lp.symm
 have cl:=zgr ss
 refine⟨_,rfl,l,_,rfl,.inl (zT.of hl),_,_,rfl,rfl,_,rfl,yr (fun c=>?_) (fun c=>?_)⟩
 ·have c':0<ss.length:=by have:=of_decide_eq_true c;rw[le] at this;omega
  have hd1:d+1<=24:=by
   have hm:ss[0]∈ss:=List.getElem_mem c'
   have:=(hi _ hm).2
   have:=Sn.N7 ss[0]
   omega
  refine⟨_,fun σ' H2 h=>h,?_⟩
  refine⟨_,rfl,(d:Int),1,rfl,rfl,?_⟩
  refine⟨_,rfl,_,rfl,l,_,rfl,.inl (zT.of hl),(t:Int),_,rfl,rfl,?_⟩
  refine⟨_,rfl,_,_,rfl,rfl,_,rfl,yr (fun c2=>?_) (fun _=>?_)⟩
  ·exfalso
   have:=of_decide_eq_true c2
   omega
  refine⟨_,rfl,_,_,rfl,rfl,_,rfl,yr (fun c2=>?_) (fun _=>?_)⟩
  ·exfalso
   have:=of_decide_eq_true c2
   rw[le] at this
   omega
  refine⟨_,rfl,l,rfl,⟨_,zT.of hl⟩,zcM (fun _ v=>v=.bl true) (zT.of hl) (by rw[le];exact zuu (zQ (by omega))) ?_ (zgq zdM) ?_⟩
  ·intro i x H2 hx g2
   rw[zue] at hx
   cases ho:ps[i]? with
   | none=>rw[ho] at hx;cases hx
   | some y =>
    rw[ho] at hx
    cases hx
    obtain⟨sy,hsy,iy⟩:=Pg hp ho
    exact⟨_,rfl,y,sy,rfl,iy.mono (xq.of g2),Sn.zdE sy (hi sy (zuh hsy)).1,fun H3 g3=>⟨rfl,g2.trans g3⟩⟩
  intro ys H2 p2 hr' g2 hp2
  have e:=Mg (f:=fun _=>.bl true) hr'
  have e2:ys=(ps.map fun _=>true).map V.bl:=by rw[e,zuN,zuN];rfl
  subst e2
  have g3:=Same.new hp2 (.lst ((ps.map fun _=>true).map V.bl))
  have ea:(ps.map fun _=>true).all id=true:=by rw[List.all_map,zuF];exact fun _ _=>rfl
  refine⟨p2,_,rfl,zT.of zf,_,rfl,?_⟩
  rw[ea]
  refine Vu ?_
  have gg:=g2.trans g3
  refine⟨_,rfl,l,ss,ps,rfl,gg.seq (zT.of hl),xX (fun _ _ z=>z.mono (xq.of gg)) hp,by omega,fun l' H4 ps' g4 hn hl' hp'=>?_⟩
  have cp:=SJ ss
  refine⟨cnt (ss.flatMap Sn.parts),by omega,ss.flatMap Sn.parts,ps',l',d+1,t+(ps.map V.ref).length,rfl,(g.trans gg).trans g4,hl',hp',?_,by omega,rfl⟩
  intro u hu
  obtain⟨s',hs',hu'⟩:=Mi.mp hu
  obtain⟨i1,i2⟩:=hi s' hs'
  have:=Sn.Te s' u hu'
  exact⟨Sn.zbV s' i1 u hu',by omega⟩
 ·exact q _ g
theorem LR (T:Txt P w K mg a)(zfV:zA P w K mg base zX k a.V7 a.V8 ["order"] (zbY K)):zA P w K mg base zX (k+1) a.u6 a.u9 ["order"] (Ku K):=by
 refine T.YZ.ok MK (fun vs H Q E h=>?_) (fun cdv A outer s H vs Q E hr h=>?_)
 ·obtain⟨l,os,rfl,_⟩:=h
  rfl
 obtain⟨l,os,rfl,hq,ho,q⟩:=h
 refine⟨_,(zu (yN (U5 (Yz (zB zfV hr rfl T.zaL T.Qx.2 T.zaK .nil zF (za (pv 0) zc)) (fun _=>rfl))) (zu Xu) zY)),?_⟩
 refine⟨_,rfl,l,os,rfl,hq,zux ho.le (by decide),fun H' g=>⟨_,rfl,?_⟩⟩
 rw[zj3 ho]
 exact Vu (q H' g)
theorem RB (T:Txt P w K mg a)(zby:zA P w K mg base zX k a.Yk a.Yl ["some"] zgs):zA P w K mg base zX (k+1) a.vK a.vL ["some"] zbZ:=by
 refine T.tX.ok Rz (fun vs H Q E h=>?_) (fun cdv A outer s H vs Q E hr h=>?_)
 ·obtain⟨p,s,rfl,_⟩:=h
  rfl
 obtain⟨p,sn,rfl,h1,h2,h3,h4,q⟩:=h
 refine⟨_,(zu (yN (U5 (Yz (zB zby hr rfl T.RT T.WX.2 T.RQ .nil zF (za (pv 0) zc)) (fun _=>rfl))) (zu Xu) zY)),?_⟩
 exact⟨_,rfl,p,sn,rfl,h1,h2,h3,h4,fun H' g=>⟨_,rfl,Vu (q H' g)⟩⟩
theorem zdi (T:Txt P w K mg a)(X8:zA P w K mg base zX k a.vp a.vq ["level"] (Xa K)):zA P w K mg base zX (k+1) a.Wm a.Wn ["sentence"] zaa:=by
 refine T.TY.ok Xc (fun vs H Q E h=>?_) (fun cdv A outer s H vs Q E hr h=>?_)
 ·obtain⟨p,s,rfl,_⟩:=h
  rfl
 obtain⟨p,sn,rfl,isp,hc,q⟩:=h
 refine⟨_,(zj (zN (i:=1) Xc.nd rfl (Or.inl rfl) (vg zc))
   (zj (zN (i:=2) Xc.nd rfl (Or.inl rfl) (vg (za (pv 0) zc)))
   (zj (QS PassesOwn.never (zL zbM (zJ zG rfl T.wu yO (za (pv 2) zc)) zq (zP _)) (zj (yq (Zh PySem.F.plainAttrs_list PySem.F.slot_list_extend PySem.F.type_list_extend zbT (pv 1) (za (pv 2) zc)))
   (zu (zN (i:=2) Xc.nd rfl (Or.inl rfl) (zB X8 hr rfl T.X3 T.Zv.2 T.XS .nil zF (za (pv 2) zc))))))
   (zu (zH (pv 1)))))),?_⟩
 refine⟨by show 0<=sizeLine;decide,fun f hf=>?_⟩
 refine⟨_,rfl,by show 1<=sizeLine;decide,fun l0 hl0=>?_⟩
 have g0:=(Same.new hf (.lst [])).trans (Same.new hl0 (.lst [.ref p]))
 have nfl:f≠l0:=zx zf hl0
 refine⟨fun m σ H'=>∃(ts ss:List Sn) (qs ps:List Addr) (l:Addr),m=cnt ss/\Same H H'/\H' f=some (.lst (qs.map V.ref))/\H' l=some (.lst (ps.map V.ref))/\f≠l/\Paired (Sy H') ts qs/\Paired (Sy H') ss ps/\ts.length+cnt ss=sn.count /\
   (∀x,((∃t∈ts,x∈t.letters)\/∃u∈ss,x∈u.all)↔x∈sn.all)/\σ=[some (.ref p),some (.ref f),some (.ref l)],
  ⟨_,[],[sn],[],[p],l0,rfl,g0,by rw[zy nfl];exact zf,zf,nfl,.nil,.cons (isp.mono (xq.of g0)) .nil,?_,?_,rfl⟩,?_⟩
 ·show 0+(sn.count+0)=sn.count
  omega
 ·intro x
  simp
 rintro m σ H' ⟨ts,ss,qs,ps,l,rfl,g,hf',hl,nfl,hts,hss,hcn,hle,rfl⟩
 have lt:=yp hts
 have lp:=yp hss
 have cl:=zgr ss
 have le:(ps.map V.ref).length=ss.length:=by rw[zuc];exact lp.symm
 refine⟨_,rfl,l,_,rfl,.inl (zT.of hl),_,_,rfl,rfl,_,rfl,yr (fun c=>?_) (fun c=>?_)⟩
 ·have c':0<ss.length:=by have:=of_decide_eq_true c;rw[le] at this;omega
  refine⟨_,fun σ' H2 h=>h,?_⟩
  refine⟨_,rfl,.inl ⟨rfl,_,zT.of hf'⟩,_,rfl,f,l,_,_,rfl,rfl,hf',hl,by rw[zuc,zuc];exact zuu (zQ (by omega)),?_⟩
  have t1:xq H' (upd H' f (.lst (qs.map V.ref++ps.map V.ref))):=xq.lst hf' _
  have g1:Same H (upd H' f (.lst (qs.map V.ref++ps.map V.ref))):=g.over hf _
  have hl1:(upd H' f (.lst (qs.map V.ref++ps.map V.ref))) l=some (.lst (ps.map V.ref)):=by rw[zy (Ne.symm nfl)];exact hl
  refine⟨_,rfl,l,ss,ps,rfl,zT.of hl1,xX (fun _ _ z=>z.mono t1) hss,by omega,fun l' H3 ps' g3 hn hl' hp'=>?_⟩
  have cp:=SJ ss
  have t3:=t1.trans (xq.of g3)
  refine⟨cnt (ss.flatMap Sn.parts),by omega,ts++ss,ss.flatMap Sn.parts,qs++ps,ps',l',rfl,g1.trans g3,by rw[zuq];exact g3 _ _ zf,hl',zx zf hn,
   ZR (xX (fun _ _ z=>z.mono t3) hts) (xX (fun _ _ z=>z.mono t3) hss),hp',by rw[zuk];omega,fun x=>?_,rfl⟩
  rw[<-hle x]
  constructor
  ·rintro (⟨t,ht,hx⟩ | ⟨u,hu,hx⟩)
   ·rcases List.mem_append.mp ht with z | z
    ·exact .inl ⟨t,z,hx⟩
    ·exact .inr ⟨t,z,(Sn.zcO t x).mpr (.inl hx)⟩
   ·obtain⟨s',hs',hu'⟩:=Mi.mp hu
    exact .inr ⟨s',hs',(Sn.zcO s' x).mpr (.inr ⟨u,hu',hx⟩)⟩
  ·rintro (⟨t,ht,hx⟩ | ⟨u,hu,hx⟩)
   ·exact .inl ⟨t,List.mem_append_left _ ht,hx⟩
   ·rcases (Sn.zcO u x).mp hx with z | ⟨v,hv,z⟩
    ·exact .inl ⟨u,zut _ hu,z⟩
    ·exact .inr ⟨v,Mi.mpr ⟨u,hu,hv⟩,z⟩
 ·have c':ss=[]:=by
   have:¬ 0<ss.length:=fun z=>c (decide_eq_true (by rw[le];omega))
   exact List.length_eq_zero_iff.mp (by omega)
  subst c'
  refine⟨_,rfl,q f H' ts qs g hf hf' hts ?_ fun x=>?_⟩
  ·have:cnt []=0:=rfl
   omega
  ·rw[<-hle x]
   constructor
   ·exact fun z=>.inl z
   ·rintro (z | ⟨u,hu,_⟩)
    ·exact z
    ·cases hu
theorem zbz (T:Txt P w K mg a)(zez:zA P w K mg base zX k a.Wm a.Wn ["sentence"] zaa)(Ur:zA P w K mg base zX k a.vG a.vH ["sentence"] YC):zA P w K mg base zX (k+1) a.Xe a.Xf ["sentence"] Kv:=by
 refine T.Uj.ok WT (fun vs H Q E h=>?_) (fun cdv A outer s H vs Q E hr h=>?_)
 ·obtain⟨p,s,rfl,_⟩:=h
  rfl
 obtain⟨p,sn,rfl,isp,hc,q⟩:=h
 refine⟨_,(zj (zN (i:=1) WT.nd rfl (Or.inl rfl) (vg zc))
   (zj (uO PassesOwn.never rfl (xr (zB zez hr rfl T.KY T.TY.2 T.KR .nil zF (za (pv 0) zc))) (yR (i:=2) WT.nd rfl (Or.inl rfl)) (zu (yq (Zh PySem.F.plainAttrs_list PySem.F.slot_list_extend PySem.F.type_list_extend JZ (pv 1) (za (zB Ur hr rfl T.Ug T.Xi.2 T.Ue .nil zF (za (pv 2) zc)) zc)))))
   (zu (zH (pv 1))))),?_⟩
 refine⟨by show 0<=sizeLine;decide,fun f hf=>?_⟩
 have g0:=Same.new hf (.lst [])
 refine⟨_,rfl,p,sn,rfl,isp.mono (xq.of g0),hc,fun l H1 ts ps g1 hn hl hts htl hle=>?_⟩
 have nfl:f≠l:=zx zf hn
 have lt:=yp hts
 refine⟨l,rfl,⟨_,zT.of hl⟩,?_⟩
 refine Yy (xs:=ps.map V.ref) (fun i σ H'=>∃(f1:Option V),Same H H'/\H' f=some (.lst (((ts.take i).flatMap Sn.letters).map V.str))/\H' l=some (.lst (ps.map V.ref))/\Paired (Sy H') ts ps/\((ts.take i).flatMap Sn.letters).length<=i/\i<=ts.length/\σ=[some (.ref p),some (.ref f),f1])
  ⟨_,g0.trans g1,g1 _ _ zf,hl,hts,by simp,zuy _,rfl⟩ ?_ ?_ ?_
 ·rintro i σ H' _ ⟨f1,g,hf',hl',_⟩
  exact zT.of hl'
 ·rintro i x σ H' hx ⟨f1,g,hf',hl',hts',lq,li,rfl⟩
  rw[zue] at hx
  cases ho:ps[i]? with
  | none=>rw[ho] at hx;cases hx
  | some pp =>
   rw[ho] at hx
   cases hx
   obtain⟨sy,hsy,iy⟩:=Pg hts' ho
   have hlt:=(zuf.mp hsy).1
   obtain⟨zs,c1,c2,c3,c4,c5⟩:=Pk iy
   have l1:=Sn.J8 sy
   refine⟨_,rfl,.inl ⟨rfl,_,zT.of hf'⟩,_,rfl,pp,sy.word,sy.letters.length,sy.parts.length,_,rfl,c1,Zj sy,c3,fun b hb=>?_⟩
   rw[c4]
   have hf2:(upd H' b (.tup (sy.letters.map V.str))) f=some (.lst (((ts.take i).flatMap Sn.letters).map V.str)):=by rw[zy (zx hf' hb)];exact hf'
   refine⟨f,b,_,sy.letters.map V.str,rfl,rfl,hf2,wK.of zf,?_,?_⟩
   ·rw[zuc,zuc]
    exact zuu (zQ (by omega))
   ·have t1:xq H' (upd (upd H' b (.tup (sy.letters.map V.str))) f (.lst (((ts.take i).flatMap Sn.letters).map V.str++sy.letters.map V.str))):=(xq.new hb _).trans (xq.lst hf2 _)
    have e:(ts.take (i+1)).flatMap Sn.letters=(ts.take i).flatMap Sn.letters++sy.letters:=by rw[yZ hsy,List.flatMap_append,List.flatMap_singleton]
    refine⟨_,(g.trans (Same.new hb _)).over hf _,by rw[zf,e,zuq],?_,xX (fun _ _ z=>z.mono t1) hts',by rw[e,zuk];omega,hlt,rfl⟩
    rw[zy (Ne.symm nfl),zy (zx hl' hb)]
    exact hl'
 ·rintro σ H' ⟨f1,g,hf',hl',hts',lq,li,rfl⟩
  rw[zuc,<-lt,zuE] at hf' lq
  refine⟨_,rfl,q f H' _ g hf hf' (fun x=>?_) (by omega)⟩
  rw[<-hle x,List.mem_flatMap]
theorem Nt (T:Txt P w K mg a):zA P w K mg base zX (k+1) a.wA a.wB ["order", "letter"] (Vx K):=by
 refine T.Yb.ok PB (fun vs H Q E h=>?_) (fun cdv A outer s H vs Q E hr h=>?_)
 ·obtain⟨l,x,os,rfl,_⟩:=h
  rfl
 obtain⟨l,x,os,rfl,hO,hx,q⟩:=h
 refine⟨_,(zu (yN (zL zcF (pv 1) (pv 0) (by with_unfolding_all rfl)) (zu Xu) zY)),?_⟩
 refine⟨_,rfl,_,rfl,l,_,rfl,.inl hO,rfl,W9 _,_,rfl,?_⟩
 have e:(if true=true then !inV (.str x) (os.map V.str) else inV (.str x) (os.map V.str))=false:=by
  rw[if_pos rfl,zdK,decide_eq_true hx];rfl
 rw[e]
 exact Vu q
theorem QC (T:Txt P w K mg a)(zdj:zA P w K mg base zX k a.Xe a.Xf ["sentence"] Kv)(Ka:zA P w K mg base zX k a.wA a.wB ["order", "letter"] (Vx K)):zA P w K mg base zX (k+1) a.v9 a.uc ["order", "sentence"] (Kw K):=by
 refine T.Zw.ok XJ (fun vs H Q E h=>?_) (fun cdv A outer s H vs Q E hr h=>?_)
 ·obtain⟨l,p,os,s,rfl,_⟩:=h
  rfl
 obtain⟨l,p,os,sn,rfl,hO,isp,hc,hin,q⟩:=h
 refine⟨_,(zu (uO PassesOwn.never rfl (xr (zB zdj hr rfl T.Nf T.Uj.2 T.Nb .nil zF (za (pv 1) zc))) (yR (i:=2) XJ.nd rfl (Or.inl rfl)) (zu (yq (zB Ka hr rfl T.Vk T.Yb.2 T.Vj .nil zF (za (pv 0) (za (pv 2) zc))))))),?_⟩
 refine⟨_,rfl,p,sn,rfl,isp,hc,fun f H1 xs g1 hn hl hmem hxl=>?_⟩
 refine⟨f,rfl,⟨_,zT.of hl⟩,?_⟩
 refine Yy (xs:=xs.map V.str) (fun i σ H'=>∃f1:Option V,H'=H1/\σ=[some (.ref l),some (.ref p),f1]) ⟨_,rfl,rfl⟩ ?_ ?_ ?_
 ·rintro i σ H' _ ⟨f1,rfl,_⟩
  exact zT.of hl
 ·rintro i x σ H' hx ⟨f1,rfl,rfl⟩
  rw[zue] at hx
  cases ho:xs[i]? with
  | none=>rw[ho] at hx;cases hx
  | some y =>
   rw[ho] at hx
   cases hx
   have hy:y∈os:=(Sn.Vw sn).mp hin y ((hmem y).mp (zuh ho))
   exact⟨_,rfl,_,rfl,l,y,os,rfl,g1.seq hO,hy,_,rfl,rfl⟩
 ·rintro σ H' ⟨f1,rfl,rfl⟩
  exact q _ g1
theorem Jh (T:Txt P w K mg a):zA P w K mg base zX (k+1) a.wG a.wH ["word", "one", "other", "every"] zdN:=by
 refine T.X6.ok Jf (fun vs H Q E h=>?_) (fun cdv A outer s H vs Q E hr h=>?_)
 ·obtain⟨o,N,M,n,f,g,rfl,_⟩:=h
  rfl
 obtain⟨o,N,M,n,f,g,rfl,hN,hM,q⟩:=h
 refine⟨_,(zj (yN (zL vf (pv 0) vd (zP _)) (zu (zH (zM Jq (pv 1) (pv 2)))) zY)
   (zj (yN (zL vf (pv 0) vd (zP _)) (zu (zH (zM N8 (pv 1) (pv 2)))) zY)
   (zj (yN (zL vf (pv 0) vd (zP _)) (zu (zH (zM Pa (pv 1) (pv 2)))) zY)
   (zu (zH (zM N8 (zM Pa (pv 3) (pv 1)) (pv 2))))))),?_⟩
 rcases zpf o with e | e | e | e
 ·subst e
  exact⟨_,rfl,rfl,_,rfl,yr (fun _=>⟨_,rfl,_,rfl,N,M,rfl,rfl,q _ (Q9 hN hM)⟩) (fun c=>absurd (decide_eq_true rfl) c)⟩
 ·subst e
  refine⟨_,rfl,rfl,_,rfl,yr (fun c=>absurd c (ne_str (show Str.ofString "or" ≠ Str.ofString "and" by decide +kernel))) (fun _=>?_)⟩
  exact⟨_,rfl,rfl,_,rfl,yr (fun _=>⟨_,rfl,_,rfl,N,M,rfl,rfl,q _ (J6 hN hM)⟩) (fun c=>absurd (decide_eq_true rfl) c)⟩
 ·subst e
  refine⟨_,rfl,rfl,_,rfl,yr (fun c=>absurd c (ne_str (show Str.ofString "either" ≠ Str.ofString "and" by decide +kernel))) (fun _=>?_)⟩
  refine⟨_,rfl,rfl,_,rfl,yr (fun c=>absurd c (ne_str (show Str.ofString "either" ≠ Str.ofString "or" by decide +kernel))) (fun _=>?_)⟩
  exact⟨_,rfl,rfl,_,rfl,yr (fun _=>⟨_,rfl,_,rfl,N,M,rfl,rfl,q _ (Sx hN hM)⟩) (fun c=>absurd (decide_eq_true rfl) c)⟩
 ·subst e
  refine⟨_,rfl,rfl,_,rfl,yr (fun c=>absurd c (ne_str (show Str.ofString "if" ≠ Str.ofString "and" by decide +kernel))) (fun _=>?_)⟩
  refine⟨_,rfl,rfl,_,rfl,yr (fun c=>absurd c (ne_str (show Str.ofString "if" ≠ Str.ofString "or" by decide +kernel))) (fun _=>?_)⟩
  refine⟨_,rfl,rfl,_,rfl,yr (fun c=>absurd c (ne_str (show Str.ofString "if" ≠ Str.ofString "either" by decide +kernel))) (fun _=>?_)⟩
  refine⟨_,rfl,_,rfl,_,N,rfl,rfl,_,rfl,_,M,rfl,rfl,q _ (vU (J6 (Sx (Jp n) hN) hM) fun b _=>?_)⟩
  show((true != f b)||g b)=(!f b||g b)
  cases f b<;>rfl
theorem zbA {d:Nat}(T:Txt P w K mg a)(vO:zA P w K mg base zX k a.ur a.uw ["marks"] Xl)(vB:zA P w K mg base zX k a.wU a.wV ["place", "marks"] tM)
  (uL:zA P w K mg base zX k a.Za a.Zb ["table", "place", "marks"] Xm)(ux:zA P w K mg base zX k a.vI a.vJ ["sentence"] ZS)
  (ZD:zA P w K mg base zX k a.wG a.wH ["word", "one", "other", "every"] zdN)
  (QD:zA P w K mg base zX k a.Z4 a.Z5 ["sentence", "order"] (SM K d)):zA P w K mg base zX (k+1) a.Z4 a.Z5 ["sentence", "order"] (SM K (d+1)):=by
 refine T.Uk.ok Wi (fun vs H Q E h=>?_) (fun cdv A outer s H vs Q E hr h=>?_)
 ·obtain⟨p,l,sn,os,rfl,_⟩:=h
  rfl
 obtain⟨p,l,sn,os,rfl,isp,hO,hin,h8,hd,q⟩:=h
 refine⟨_,(zj (zN (i:=2) Wi.nd rfl (Or.inl rfl) (yg vh (pv 0) zq (fun _ _=>rfl)))
   (zj (zN (i:=3) Wi.nd rfl (Or.inl rfl) (zJ zG rfl T.wu yO (za (pv 1) zc)))
   (zj (yN (zL vf (pv 2) vd (zP _)) (zu (zH zq)) zY)
   (zj (yN (zL vf (pv 2) vd (zP _)) (zu (zH (zB vO hr rfl T.Z9 T.tW.2 T.Z8 .nil zF (za (pv 3) zc)))) zY)
   (zj (yN (zL vf (pv 2) vd (zP _)) (zu (zH (zB vB hr rfl T.Wv T.YK.2 T.Wu .nil zF (za (Zh PySem.F.plainAttrs_list PySem.F.slot_list_index PySem.F.type_list_index Q8 (pv 1) (za (yg vh (pv 0) zq (fun _ _=>rfl)) zc)) (za (pv 3) zc))))) zY)
   (zj (U9 (tt:=Qd) (i:=4) Wi.nd rfl (Or.inl rfl) (.inl rfl) (ZK:=zp XC) (js:=[1]) rfl (by show YL (zp XC) _ "part" ["order"];exact⟨rfl,by decide +kernel,by decide +kernel,rfl,by decide +kernel,by decide +kernel,by decide +kernel⟩) rfl (JN (zB ux hr rfl T.Ui T.XR.2 T.Uh .nil zF (za (pv 0) zc))) (by show ∀j∈([1]:List Nat),j<5;decide) (fun cl C s₂ H₂ fp pins s' σ' H' Q I h=>wpAny_pure ⟨H',I,h⟩) (fun cl C s₂ H₂ fp=>(zB QD hr rfl T.Qz T.Uk.2 T.Qy .nil zF (za (pv 0) (za (pv 1) zc)))) rfl)
   (zj (yN (zL vf (pv 2) vd (zP _)) (zu (zH (zM Pa (zB vO hr rfl T.Z9 T.tW.2 T.Z8 .nil zF (za (pv 3) zc)) (yg yS (pv 4) zq (fun _ _=>rfl))))) zY)
   (zj (yN (zL vf (pv 2) vd (zP _)) (zu (zH (zM N8 (yg yS (pv 4) zq (fun _ _=>rfl)) (zB uL hr rfl T.Vi T.Xq.2 T.Vh .nil zF (za (yg yS (pv 4) zq (fun _ _=>rfl)) (za (Zh PySem.F.plainAttrs_list PySem.F.slot_list_index PySem.F.type_list_index Q8 (pv 1) (za (yg vh (pv 0) zq (fun _ _=>rfl)) zc)) (za (pv 3) zc))))))) zY)
   (zj (yN (zL vf (pv 2) vd (zP _)) (zu (zH (zM Jq (yg yS (pv 4) zq (fun _ _=>rfl)) (zB uL hr rfl T.Vi T.Xq.2 T.Vh .nil zF (za (yg yS (pv 4) zq (fun _ _=>rfl)) (za (Zh PySem.F.plainAttrs_list PySem.F.slot_list_index PySem.F.type_list_index Q8 (pv 1) (za (yg vh (pv 0) zq (fun _ _=>rfl)) zc)) (za (pv 3) zc))))))) zY)
   (zu (zH (zB ZD hr rfl T.T4 T.X6.2 T.T3 .nil zF (za (pv 2) (za (yg yS (pv 4) zq (fun _ _=>rfl)) (za (yg yS (pv 4) zq (fun _ _=>rfl)) (za (zB vO hr rfl T.Z9 T.tW.2 T.Z8 .nil zF (za (pv 3) zc)) zc)))))))))))))))),?_⟩
 have hlen:(os.map V.str).length=os.length:=zuc _
 obtain⟨zs,c1,c2,c3,c4,c5⟩:=Pk isp
 have lz:=yp c2
 have lp2:=Sn.Pj sn
 refine⟨_,rfl,p,_,0,_,rfl,rfl,wK.of c1,at0,?_⟩
 refine⟨_,rfl,l,_,rfl,.inl hO,?_⟩
 rw[hlen]
 have comp:∀{σ:St} {Q2:Addr->Hp->List V->Prop},σ.getD 1 none=some (.ref l)->(∀(b:Addr) (ys:List V) (H':Hp),Same H H'->H' b=none->ys.length=sn.parts.length->(∀(j:Nat) v,ys[j]?=some v->∃t N,sn.parts[j]?=some t/\v=.int (N:Nat)/\TabOf os t N)->Q2 b H' ys) ->
   ∀b0,H b0=none->∃W:Nat->Nat->List V->Hp->Prop,(∃m,W 0 m [] (upd H b0 (.tup (zs.map V.ref))))/\∀i m ys H,W i m ys H ->
    ((Itt K b0).stop i H/\∀p,H p=none->Q2 p H ys) \/
    ((Itt K b0).go i H/\ys.length<sizeLine/\∀x H',(Itt K b0).Jb i H x H'->Qd (YM σ [1] (some x)) H' fun b H2 =>
     if b=true then zbN (SM K d) [] E0 (U8 (JH 0) (U8 (JH 1) zbj)) (YM σ [1] (some x)) H2 fun v H3=>∃m',m'<m/\W (i+1) m' (ys++[v]) H3 else ∃m',m'<m/\W (i+1) m' ys H2):=by
  intro σ Q2 hσ hQ2 b0 hb0
  have g0:=Same.new hb0 (.tup (zs.map V.ref))
  refine zgt (fun j v=>∃t N,sn.parts[j]?=some t/\v=.int ((N:Nat):Int)/\TabOf os t N) (wK.of zf) (by rw[zuc];exact zuu (zQ (by omega))) ?_ (znj (zfc d)) ?_
  ·intro i x H' hx g
   rw[zue] at hx
   cases ho:zs[i]? with
   | none=>rw[ho] at hx;cases hx
   | some y =>
    rw[ho] at hx
    cases hx
    obtain⟨t,ht,it⟩:=Pg c2 ho
    have htm:=zuh ht
    have dp:=Sn.Te sn t htm
    refine⟨_,rfl,.ref l,?_,y,l,t,os,rfl,it.mono (xq.of (g0.trans g)),(g0.trans g).seq hO,Sn.zbV sn hin t htm,h8,by omega,fun N H3 g3 hN=>⟨⟨t,N,ht,rfl,hN⟩,g.trans g3⟩⟩
    show some (σ.getD 1 none)=_
    rw[hσ]
  ·intro ys H' pp hl hy g hpp
   exact hQ2 pp ys H' (g0.trans g) hpp (by rw[hl,zuc];exact lz.symm) hy
 cases sn with
 | c0 y =>
  cases y with
  | false=>exact⟨_,rfl,rfl,_,rfl,yr (fun _=>q 0 _ (Same.refl _) (zdF _)) (fun c=>absurd (decide_eq_true rfl) c)⟩
  | true =>
   refine⟨_,rfl,rfl,_,rfl,yr (fun c=>absurd c (ne_str (show Str.ofString "yes" ≠ Str.ofString "no" by decide +kernel))) (fun _=>?_)⟩
   exact⟨_,rfl,rfl,_,rfl,yr (fun _=>⟨_,rfl,os.length,rfl,h8,q _ _ (Same.refl _) (Jp _)⟩) (fun c=>absurd (decide_eq_true rfl) c)⟩
 | mk x =>
  refine⟨_,rfl,rfl,_,rfl,yr (fun c=>absurd c (ne_str (show Str.ofString "mark" ≠ Str.ofString "no" by decide +kernel))) (fun _=>?_)⟩
  refine⟨_,rfl,rfl,_,rfl,yr (fun c=>absurd c (ne_str (show Str.ofString "mark" ≠ Str.ofString "yes" by decide +kernel))) (fun _=>?_)⟩
  obtain⟨i1,i2,i3⟩:=Vy (show x∈os from hin)
  have isp':H p=some (.tup [.str "mark", .str x]):=isp
  exact⟨_,rfl,rfl,_,rfl,yr (fun _=>⟨_,rfl,.inl ⟨rfl,_,hO⟩,_,rfl,p,_,1,_,rfl,rfl,wK.of isp',at1,l,_,.str x,_,rfl,rfl,hO,rfl,W9 _,i1,_,rfl,ix os x,os.length,rfl,i2,h8,fun R hR=>q R _ (Same.refl _) hR⟩) (fun c=>absurd (decide_eq_true rfl) c)⟩
 | nt s1 =>
  refine⟨_,rfl,rfl,_,rfl,yr (fun c=>absurd c (ne_str (show Str.ofString "not" ≠ Str.ofString "no" by decide +kernel))) (fun _=>?_)⟩
  refine⟨_,rfl,rfl,_,rfl,yr (fun c=>absurd c (ne_str (show Str.ofString "not" ≠ Str.ofString "yes" by decide +kernel))) (fun _=>?_)⟩
  refine⟨_,rfl,rfl,_,rfl,yr (fun c=>absurd c (ne_str (show Str.ofString "not" ≠ Str.ofString "mark" by decide +kernel))) (fun _=>?_)⟩
  refine⟨_,rfl,p,_,_,_,_,rfl,c1,Zj (.nt s1),c3,fun b0 hb0=>?_⟩
  rw[c5]
  refine⟨b0,rfl,⟨_,wK.of zf⟩,comp rfl (fun b ys H0 g0 hb0' hyl hy=>?_) b0 hb0⟩
  have hb:=zf (H:=H0) (a:=b) (o:=.lst ys)
  have g:=g0.trans (Same.new hb0' (.lst ys))
  obtain⟨v,rfl⟩:=len1 hyl
  obtain⟨t,N,ht,rfl,hN⟩:=hy 0 v rfl
  cases ht
  refine⟨_,rfl,rfl,_,rfl,yr (fun _=>⟨_,rfl,os.length,rfl,h8,_,rfl,b,_,0,_,rfl,rfl,zT.of hb,at0,_,N,rfl,rfl,q _ _ g (vU (Sx (Jp _) hN) fun z _=>?_)⟩) (fun c=>absurd (decide_eq_true rfl) c)⟩
  show(true != s1.val (Ry os z))=!s1.val (Ry os z)
  cases s1.val (Ry os z)<;>rfl
 | b2 o s1 s2 =>
  have w1:w2 o≠Str.ofString "no" := znk o
  have w2':w2 o≠Str.ofString "yes" := zlT o
  have w3:w2 o≠Str.ofString "mark" := zj4 o
  have w4:w2 o≠Str.ofString "not" := zlU o
  have w5:w2 o≠Str.ofString "some" := zj5 o
  have w6:w2 o≠Str.ofString "each" := zj6 o
  refine⟨_,rfl,rfl,_,rfl,yr (fun c=>absurd c (ne_str w1)) (fun _=>?_)⟩
  refine⟨_,rfl,rfl,_,rfl,yr (fun c=>absurd c (ne_str w2')) (fun _=>?_)⟩
  refine⟨_,rfl,rfl,_,rfl,yr (fun c=>absurd c (ne_str w3)) (fun _=>?_)⟩
  refine⟨_,rfl,p,_,_,_,_,rfl,c1,Zj (.b2 o s1 s2),c3,fun b0 hb0=>?_⟩
  rw[c5]
  refine⟨b0,rfl,⟨_,wK.of zf⟩,comp rfl (fun b ys H0 g0 hb0' hyl hy=>?_) b0 hb0⟩
  have hb:=zf (H:=H0) (a:=b) (o:=.lst ys)
  have g:=g0.trans (Same.new hb0' (.lst ys))
  obtain⟨v,u,rfl⟩:=len2 hyl
  obtain⟨t,N,ht,rfl,hN⟩:=hy 0 v rfl
  obtain⟨t',M,ht',rfl,hM⟩:=hy 1 u rfl
  cases ht
  cases ht'
  refine⟨_,rfl,rfl,_,rfl,yr (fun c=>absurd c (ne_str w4)) (fun _=>?_)⟩
  refine⟨_,rfl,rfl,_,rfl,yr (fun c=>absurd c (ne_str w5)) (fun _=>?_)⟩
  refine⟨_,rfl,rfl,_,rfl,yr (fun c=>absurd c (ne_str w6)) (fun _=>?_)⟩
  exact⟨_,rfl,_,rfl,b,_,0,_,rfl,rfl,zT.of hb,at0,_,rfl,b,_,1,_,rfl,rfl,zT.of hb,at1,_,rfl,os.length,rfl,h8,o,N,M,os.length,_,_,rfl,hN,hM,fun R hR=>q R _ g hR⟩
 | q1 o x s1 =>
  obtain⟨hx,hs1⟩:=hin
  obtain⟨i1,i2,i3⟩:=Vy hx
  cases o with
  | true =>
   refine⟨_,rfl,rfl,_,rfl,yr (fun c=>absurd c (ne_str (show Str.ofString "some" ≠ Str.ofString "no" by decide +kernel))) (fun _=>?_)⟩
   refine⟨_,rfl,rfl,_,rfl,yr (fun c=>absurd c (ne_str (show Str.ofString "some" ≠ Str.ofString "yes" by decide +kernel))) (fun _=>?_)⟩
   refine⟨_,rfl,rfl,_,rfl,yr (fun c=>absurd c (ne_str (show Str.ofString "some" ≠ Str.ofString "mark" by decide +kernel))) (fun _=>?_)⟩
   refine⟨_,rfl,p,_,_,_,_,rfl,c1,Zj (.q1 true x s1),c3,fun b0 hb0=>?_⟩
   rw[c5]
   refine⟨b0,rfl,⟨_,wK.of zf⟩,comp rfl (fun b ys H0 g0 hb0' hyl hy=>?_) b0 hb0⟩
   have hb:=zf (H:=H0) (a:=b) (o:=.lst ys)
   have g:=g0.trans (Same.new hb0' (.lst ys))
   obtain⟨v,rfl⟩:=len1 hyl
   obtain⟨t,N,ht,rfl,hN⟩:=hy 0 v rfl
   cases ht
   have c1':=g _ _ c1
   refine⟨_,rfl,rfl,_,rfl,yr (fun c=>absurd c (ne_str (show Str.ofString "some" ≠ Str.ofString "not" by decide +kernel))) (fun _=>?_)⟩
   refine⟨_,rfl,rfl,_,rfl,yr (fun _=>?_) (fun c=>absurd (decide_eq_true rfl) c)⟩
   refine⟨_,rfl,b,_,0,_,rfl,rfl,zT.of hb,at0,_,rfl,b,_,0,_,rfl,rfl,zT.of hb,at0,_,rfl,.inl ⟨rfl,_,g.seq hO⟩,_,rfl,p,_,1,_,rfl,rfl,wK.of c1',at1,l,_,.str x,_,rfl,rfl,g.seq hO,rfl,W9 _,i1,_,rfl,N,ix os x,os.length,_,rfl,i2,h8,hN,fun R hR=>⟨N,R,rfl,rfl,q _ _ g (vU (J6 hN hR) fun z _=>?_)⟩⟩
   exact(ziL hs1 hx z).symm
  | false =>
   refine⟨_,rfl,rfl,_,rfl,yr (fun c=>absurd c (ne_str (show Str.ofString "each" ≠ Str.ofString "no" by decide +kernel))) (fun _=>?_)⟩
   refine⟨_,rfl,rfl,_,rfl,yr (fun c=>absurd c (ne_str (show Str.ofString "each" ≠ Str.ofString "yes" by decide +kernel))) (fun _=>?_)⟩
   refine⟨_,rfl,rfl,_,rfl,yr (fun c=>absurd c (ne_str (show Str.ofString "each" ≠ Str.ofString "mark" by decide +kernel))) (fun _=>?_)⟩
   refine⟨_,rfl,p,_,_,_,_,rfl,c1,Zj (.q1 false x s1),c3,fun b0 hb0=>?_⟩
   rw[c5]
   refine⟨b0,rfl,⟨_,wK.of zf⟩,comp rfl (fun b ys H0 g0 hb0' hyl hy=>?_) b0 hb0⟩
   have hb:=zf (H:=H0) (a:=b) (o:=.lst ys)
   have g:=g0.trans (Same.new hb0' (.lst ys))
   obtain⟨v,rfl⟩:=len1 hyl
   obtain⟨t,N,ht,rfl,hN⟩:=hy 0 v rfl
   cases ht
   have c1':=g _ _ c1
   refine⟨_,rfl,rfl,_,rfl,yr (fun c=>absurd c (ne_str (show Str.ofString "each" ≠ Str.ofString "not" by decide +kernel))) (fun _=>?_)⟩
   refine⟨_,rfl,rfl,_,rfl,yr (fun c=>absurd c (ne_str (show Str.ofString "each" ≠ Str.ofString "some" by decide +kernel))) (fun _=>?_)⟩
   refine⟨_,rfl,rfl,_,rfl,yr (fun _=>?_) (fun c=>absurd (decide_eq_true rfl) c)⟩
   refine⟨_,rfl,b,_,0,_,rfl,rfl,zT.of hb,at0,_,rfl,b,_,0,_,rfl,rfl,zT.of hb,at0,_,rfl,.inl ⟨rfl,_,g.seq hO⟩,_,rfl,p,_,1,_,rfl,rfl,wK.of c1',at1,l,_,.str x,_,rfl,rfl,g.seq hO,rfl,W9 _,i1,_,rfl,N,ix os x,os.length,_,rfl,i2,h8,hN,fun R hR=>⟨N,R,rfl,rfl,q _ _ g (vU (Q9 hN hR) fun z _=>?_)⟩⟩
   exact(ziM hs1 hx z).symm
theorem Ja (T:Txt P w K mg a)(vO:zA P w K mg base zX k a.ur a.uw ["marks"] Xl)(vB:zA P w K mg base zX k a.wU a.wV ["place", "marks"] tM)
  (uL:zA P w K mg base zX k a.Za a.Zb ["table", "place", "marks"] Xm)(ux:zA P w K mg base zX k a.vI a.vJ ["sentence"] ZS)
  (ZD:zA P w K mg base zX k a.wG a.wH ["word", "one", "other", "every"] zdN):∀d:Nat,zA P w K mg base zX (k+d) a.Z4 a.Z5 ["sentence", "order"] (SM K d)
 | 0=>by
  refine⟨fun vs H Q E h=>?_,fun A outer s H args us vs Q E _ _ _ _ h=>?_⟩
  ·obtain⟨p,l,sn,os,rfl,_⟩:=h
   rfl
  ·obtain⟨p,l,sn,os,_,_,_,_,_,hd,_⟩:=h
   have:=Sn.N7 sn
   omega
 | d+1=>zbA T (vO.mono (zuM _ _)) (vB.mono (zuM _ _)) (uL.mono (zuM _ _)) (ux.mono (zuM _ _)) (ZD.mono (zuM _ _)) (Ja T vO vB uL ux ZD d)
theorem zfW (T:Txt P w K mg a)(vB:zA P w K mg base zX k a.wU a.wV ["place", "marks"] tM)(uL:zA P w K mg base zX k a.Za a.Zb ["table", "place", "marks"] Xm):zA P w K mg base zX (k+1) a.Xo a.Xp ["table", "place", "value", "marks"] Pq:=by
 refine T.Rf.ok Qq (fun vs H Q E h=>?_) (fun cdv A outer s H vs Q E hr h=>?_)
 ·obtain⟨N,p,n,v,f,rfl,_⟩:=h
  rfl
 obtain⟨N,p,n,v,f,rfl,hp,hn,tb,q⟩:=h
 refine⟨_,(zj (zN (i:=4) Qq.nd rfl (Or.inl rfl) (zM Jq (pv 0) (zB vB hr rfl T.Wv T.YK.2 T.Wu .nil zF (za (pv 1) (za (pv 3) zc)))))
   (zj (zN (i:=5) Qq.nd rfl (Or.inl rfl) (zh8 (zL vf (pv 2) zq (zP _)) (pv 4) (zM Pa (pv 0) (pv 4))))
   (zu (zH (zM N8 (pv 5) (zB uL hr rfl T.Vi T.Xq.2 T.Vh .nil zF (za (pv 5) (za (pv 1) (za (pv 3) zc))))))))),?_⟩
 refine⟨_,rfl,_,rfl,_,rfl,p,n,rfl,hp,hn,fun R tr=>?_⟩
 refine⟨N,R,rfl,rfl,?_⟩
 have o:=Y9.Q9 tb tr
 refine⟨_,rfl,rfl,_,rfl,?_⟩
 cases v with
 | true =>
  refine yr (fun _=>?_) (fun c=>absurd (decide_eq_true rfl) c)
  refine⟨_,rfl,?_⟩
  refine⟨_,rfl,_,rfl,_,rfl,_,rfl,N&&&R,p,n,_,rfl,hp,hn,o,fun R2 t2=>?_⟩
  refine⟨_,_,rfl,rfl,q _ (vU (Y9.J6 o t2) fun b hb=>?_)⟩
  show((f b&&b.testBit p)||(f (zZ b p (!b.testBit p))&&(zZ b p (!b.testBit p)).testBit p))=f (zZ b p true)
  rw[yd,if_pos rfl]
  cases e:b.testBit p
  ·simp
  ·rw[<-e,zE.wj,e];simp
 | false =>
  refine yr (fun c=>absurd (of_decide_eq_true c) (fun z=>by injection z with z;revert z;decide)) (fun _=>?_)
  have z:=Y9.Sx tb o
  refine⟨_,rfl,_,rfl,N,N&&&R,rfl,rfl,?_⟩
  refine⟨_,rfl,_,rfl,_,rfl,_,rfl,N ^^^ (N&&&R),p,n,_,rfl,hp,hn,z,fun R2 t2=>?_⟩
  refine⟨_,_,rfl,rfl,q _ (vU (Y9.J6 z t2) fun b hb=>?_)⟩
  show((f b != (f b&&b.testBit p))||(f (zZ b p (!b.testBit p)) != (f (zZ b p (!b.testBit p))&&(zZ b p (!b.testBit p)).testBit p)))=f (zZ b p false)
  rw[yd,if_pos rfl]
  cases e:b.testBit p
  ·rw[<-e,zE.wj,e];simp
  ·simp
theorem zeA (T:Txt P w K mg a)(uL:zA P w K mg base zX k a.Za a.Zb ["table", "place", "marks"] Xm):zA P w K mg base zX (k+1) a.V5 a.V6 ["table", "place", "marks"] zgy:=by
 refine T.Qw.ok zec (fun vs H Q E h=>?_) (fun cdv A outer s H vs Q E hr h=>?_)
 ·obtain⟨N,p,n,f,rfl,_⟩:=h
  rfl
 obtain⟨N,p,n,f,rfl,hp,hn,tb,q⟩:=h
 refine⟨_,(zu (zH (uy Kf (zB uL hr rfl T.Vi T.Xq.2 T.Vh .nil zF (za (pv 0) (za (pv 1) (za (pv 2) zc)))) (pv 0) (zP _)))),?_⟩
 refine⟨_,rfl,_,rfl,_,rfl,N,p,n,f,rfl,hp,hn,tb,fun R tr=>?_⟩
 refine⟨_,rfl,rfl,?_⟩
 refine q _ (fun e=>?_) (fun e=>?_)
 ·have e1:R=N:=by
   have z:V.int (R:Nat)=V.int (N:Nat):=of_decide_eq_true (by simpa using e)
   injection z with z
   omega
  subst e1
  refine zE.Free.zkd fun b hb=>?_
  rw[<-zE.Jv tr hb,zE.Jv tb hb]
 ·refine Classical.byContradiction fun no=>?_
  have e1:R=N:=zE.zgx tr tb fun b hb=>by
   refine Classical.byContradiction fun ne=>no ⟨b,hb,fun z=>ne ?_⟩
   show f (zZ b p (!b.testBit p))=f b
   cases e:b.testBit p
   ·rw[Bool.not_false,<-z,<-e,zE.wj]
   ·rw[Bool.not_true,z,<-e,zE.wj]
  subst e1
  rw[decide_eq_true rfl] at e
  cases e
theorem za6 (T:Txt P w K mg a)(zfX:zA P w K mg base zX k a.V5 a.V6 ["table", "place", "marks"] zgy):zA P w K mg base zX (k+1) a.vW a.vX ["table", "marks"] Jw:=by
 refine T.WW.ok XH (fun vs H Q E h=>?_) (fun cdv A outer s H vs Q E hr h=>?_)
 ·obtain⟨N,n,f,rfl,_⟩:=h
  rfl
 obtain⟨N,n,f,rfl,hn,tb,q⟩:=h
 refine⟨_,(zj (zN (i:=2) XH.nd rfl (Or.inl rfl) zq)
   (zj (QS PassesOwn.never (PW.pt (zeO (zL zbL (pv 2) (pv 1) (zP _)) (zcx (U5 (Yz (zB zfX hr rfl T.zaJ T.Qw.2 T.zaI .nil zF (za (pv 0) (za (pv 2) (za (pv 1) zc)))) (fun _=>rfl)))))) (zu (zeP (i:=2) XH.nd rfl (Or.inl rfl) zq zcz)))
   (zu (zH (pv 2))))),?_⟩
 refine⟨fun m σ H'=>∃p:Nat,m=n-p/\H'=H/\p<=n/\(∀i,i<p->zE.Free n f i)/\σ=[some (.int N),some (.int n),some (.int p)],⟨_,0,rfl,rfl,zuy _,fun i hi=>absurd hi (Nat.not_lt_zero _),rfl⟩,?_⟩
 rintro m σ H' ⟨p,rfl,rfl,hp,fr,rfl⟩
 refine⟨_,rfl,_,rfl,_,_,rfl,rfl,_,rfl,yr (fun c=>?_) (fun c=>?_)⟩
 ·have hpn:p<n:=by have:=of_decide_eq_true c;omega
  refine⟨_,rfl,_,rfl,_,rfl,N,p,n,f,rfl,hpn,hn,tb,fun b hf ht=>?_⟩
  cases b with
  | false =>
   refine⟨_,rfl,yr (fun c2=>?_) (fun c2=>absurd rfl c2)⟩
   refine⟨_,fun σ' H2 h=>h,?_⟩
   refine⟨_,rfl,_,_,rfl,rfl,n-(p+1),by omega,p+1,rfl,rfl,hpn,fun i hi=>?_,rfl⟩
   by_cases e:i=p
   ·subst e
    exact hf rfl
   ·exact fr i (by omega)
  | true =>
   refine⟨_,rfl,yr (fun c2=>absurd c2 zug) (fun c2=>?_)⟩
   exact⟨_,rfl,q p hp fr fun _=>ht rfl⟩
 ·refine⟨_,rfl,q p hp fr fun h=>absurd (decide_eq_true (by omega)) c⟩
theorem Nu {d:Nat}(T:Txt P w K mg a)(Yw:zA P w K mg base zX k a.vW a.vX ["table", "marks"] Jw)(Vo:zA P w K mg base zX k a.Xo a.Xp ["table", "place", "value", "marks"] Pq)
  (uM:zA P w K mg base zX k a.wC a.wD ["self", "table"] (VD a.zm d)):zA P w K mg base zX (k+1) a.wC a.wD ["self", "table"] (VD a.zm (d+1)):=by
 refine T.Vl.ok wR (fun vs H Q E h=>?_) (fun cdv A outer s H vs Q E hr h=>?_)
 ·obtain⟨b,os,rs,F,t,u,f,rfl,_⟩:=h
  rfl
 obtain⟨b,os,rs,F,t,u,f,rfl,hB,hlen,hu,hd,tb,fr,q⟩:=h
 refine⟨_,(zj (yN (zh7 (zb3 (RD hr) (pv 1) (tK (pv 0) rfl))) (zj (zN (i:=2) wR.nd rfl (Or.inl rfl) (zJ zG rfl T.wu yO (za (tK (pv 0) rfl) zc)))
   (zj (zN (i:=3) wR.nd rfl (Or.inl rfl) (zB Yw hr rfl T.RP T.WW.2 T.RN .nil zF (za (pv 1) (za (pv 2) zc))))
   (zj (zN (i:=4) wR.nd rfl (Or.inl rfl) (z9 (pv 0) T.zO T.uK uM hr T.uJ .nil zF (za (zB Vo hr rfl T.M7 T.Rf.2 T.M6 .nil zF (za (pv 1) (za (pv 3) (za zq (za (pv 2) zc))))) zc)))
   (zj (zN (i:=5) wR.nd rfl (Or.inl rfl) (z9 (pv 0) T.zO T.uK uM hr T.uJ .nil zF (za (zB Vo hr rfl T.M7 T.Rf.2 T.M6 .nil zF (za (pv 1) (za (pv 3) (za zq (za (pv 2) zc))))) zc)))
   (zj (Ju (RD hr) (tK (pv 0) rfl) (pv 1) (zJ zG rfl T.wu yO (za (tK (pv 0) rfl) zc)) rfl)
   (zj (yq (Zh PySem.F.plainAttrs_list PySem.F.slot_list_append PySem.F.type_list_append vR (tK (pv 0) rfl) (za (vC (za (pv 3) (za (pv 4) (za (pv 5) zc)))) zc)))
   (zu (yq (Zh PySem.F.plainAttrs_list PySem.F.slot_list_append PySem.F.type_list_append vR (tK (pv 0) rfl) (za (pv 1) zc)))))))))) zY)
   (zu (zH (Jt (RD hr) (tK (pv 0) rfl) (pv 1) (fun _ _=>rfl))))),?_⟩
 have UJ:=hB
 obtain⟨dx,ml,rl,tl,nd,rv,ts,kvs,h⟩:=hB
 have n8:os.length<=8:=h.ord.le
 have hml:(os.map V.str).length=os.length:=zuc _
 have pw:2^(d+1)=2^d+2^d:=by rw[Nat.pow_succ];omega
 have pd:1<=2^d:=Nat.one_le_two_pow
 have pn:2^os.length<=256:=Y9.zhd n8
 refine⟨_,rfl,_,rfl,b,a.zm,dx,_,_,rfl,h.hb,T.zO,T.yx,rfl,nd,_,rfl,Tj.k (k:=.inl (t:Int)) h.hd,?_⟩
 by_cases hm:t∈ts
 ·obtain⟨j,hj,ej⟩:=zuS hm
  have ej':ts[j]?=some t:=by rw[zud hj,ej]
  have ev:=h.nums.get j t ej'
  have z:=Tj.k (k:=.inl (t:Int)) h.hd
  rw[ev] at z
  rw[ev]
  refine⟨_,rfl,Vu ?_⟩
  refine⟨_,rfl,b,a.zm,dx,_,_,rfl,h.hb,T.zO,T.yx,rfl,_,rfl,nd,_,rfl,z,?_⟩
  refine q j rs H (fun x o e _=>e) (fun _ _ e=>e) UJ (.refl _) (by rw[<-h.tabs.len];exact hj) (h.tabs.find h.bk ej' tb) (by omega) fun j h1 h2=>by omega
 ·have ev:=h.nums.non t hm
  rw[ev]
  refine⟨_,rfl,JV ?_⟩
  refine⟨_,rfl,b,a.zm,dx,_,_,rfl,h.hb,T.zO,T.yw,rfl,ml,_,rfl,.inl (zT.of h.hm),?_⟩
  rw[hml]
  refine⟨_,rfl,_,rfl,t,os.length,f,rfl,n8,tb,fun p hp0 frp dep=>?_⟩
  have hp:p<os.length:=by
   refine Nat.lt_of_le_of_ne hp0 fun e=>hm ?_
   subst e
   have cs:=zE.zbq frp
   have two:=zE.len2 h.bk
   cases hf:f 0 with
   | false=>exact zuh (h.tabs.same (j:=0) (by omega) tb fun r=>by rw[cs _ (zE.uY _ _),hf];rfl)
   | true=>exact zuh (h.tabs.same (j:=1) (by omega) tb fun r=>by rw[cs _ (zE.uY _ _),hf];exact zE.Ye h.bk r)
  have hup:u<=p:=by
   refine Nat.le_of_not_lt fun hlt=>?_
   obtain⟨c,hc,hne⟩:=dep hp
   exact hne (by rw[fr p hlt c hc,fr p hlt c hc])
  have fre:∀(v:Bool) i,i<p+1->zE.Free os.length (fun c=>f (zZ c p v)) i:=fun v i hi c hc v'=>by
   show f (zZ (zZ c i v') p v)=f (zZ c p v)
   by_cases e:i=p
   ·subst e
    congr 1
    refine zE.VB (yE (yE hc hp) hp) (yE hc hp) fun j _=>?_
    rw[yd,yd,yd]
    by_cases e:j=i
    ·rw[if_pos e,if_pos e]
    ·rw[if_neg e,if_neg e,if_neg e]
   ·rw[<-frp i (by omega) _ (yE (v:=v) hc hp) v']
    congr 1
    refine zE.VB (yE (yE hc (by omega)) hp) (yE (yE hc hp) (by omega)) fun j _=>?_
    rw[yd,yd,yd,yd]
    by_cases e1:j=p
    ·rw[if_pos e1,if_pos e1,if_neg (by omega)]
    ·rw[if_neg e1,if_neg e1]
  refine⟨_,rfl,b,dx,_,rfl,h.hb,rfl,_,rfl,_,rfl,_,rfl,t,p,os.length,false,f,rfl,hp,n8,tb,fun R0 tr0=>?_⟩
  refine⟨b,os,rs,F,R0,p+1,_,rfl,UJ,by omega,hp,by omega,tr0,fre false,fun k0 rs1 H1 aw1 tu1 hB1 gr1 lt1 y1 ln1 lv1=>?_⟩
  have hB1':=hB1
  obtain⟨dx1,ml1,rl1,tl1,nd1,rv1,ts1,zs0,h1⟩:=hB1
  refine⟨_,rfl,b,dx1,_,rfl,h1.hb,rfl,_,rfl,_,rfl,_,rfl,t,p,os.length,true,f,rfl,hp,n8,tb,fun R1 tr1=>?_⟩
  refine⟨b,os,rs1,F,R1,p+1,_,rfl,hB1',by omega,hp,by omega,tr1,fre true,fun k1 rs2 H2 aw2 tu2 hB2 gr2 lt2 y2 ln2 lv2=>?_⟩
  obtain⟨dx2,ml2,rl2,tl2,Nv,rv2,ts2,znE,h2⟩:=hB2
  have lt1':k0<rs2.length:=zul lt1 gr2.len
  have y1':∀r,zE.yes rs2 k0 r=f (zZ (zE.bits r os.length) p false):=fun r=>by rw[gr2.yes h1.bk lt1];exact y1 r
  have g02:=gr1.trans gr2
  have lrs:=g02.len
  have lvs:∀j,rs.length<=j->j<rs2.length->p<zE.z8 os.length rs2 j:=fun j a1 a2=>by
   by_cases hj:j<rs1.length
   ·rw[gr2.z8 hj];exact lv1 j a1 hj
   ·exact lv2 j (by omega) a2
  have old:∀j,j<rs.length->¬∀r,zE.yes rs2 j r=f (zE.bits r os.length):=fun j hj hy=>hm (zuh (h.tabs.same hj tb fun r=>by rw[<-g02.yes h.bk hj];exact hy r))
  obtain⟨B',yn⟩:=zE.ziT h2.bk hp lt1' lt2 y1' y2 frp (dep hp) old lvs
  have hn2:t∉ts2:=fun hm2=>by
   obtain⟨j,hj,ej⟩:=zuS hm2
   have ej':ts2[j]?=some t:=by rw[zud hj,ej]
   have hjr:j<rs2.length:=by rw[<-h2.tabs.len];exact hj
   have hy:=h2.tabs.find h2.bk ej' tb
   by_cases hjo:j<rs.length
   ·exact old j hjo hy
   ·obtain⟨c,hc,hne⟩:=dep hp
    have lv:=lvs j (by omega) hjr
    refine hne ?_
    have a1:=hy (zE.put (zE.zbp c) p false)
    have a2:=hy (zE.put (zE.zbp c) p true)
    rw[zE.Zk h2.bk hjr lv,zE.zdX hp,zE.SQ hc] at a1 a2
    exact a1.symm.trans a2
  have l2:=h2.len
  have s2:rs2.length<sizeLine:=zul (show rs2.length<9000001 by omega) (by decide)
  refine⟨_,rfl,b,a.zm,dx2,_,_,rfl,h2.hb,T.zO,T.yG,rfl,rl2,_,rfl,.inl (zT.of h2.hr),?_⟩
  rw[l2]
  refine⟨_,rfl,b,a.zm,dx2,_,_,rfl,h2.hb,T.zO,T.yx,rfl,_,rfl,Nv,_,rfl,zdQ.k (k:=.inl (t:Int)) h2.hd (by have:=h2.nums.len;have:=h2.tabs.len;omega),?_⟩
  have nb:Nv≠b:=Yx h2.hd h2.hb (by intro z;cases z)
  have nm:Nv≠ml2:=Yx h2.hd h2.hm (by intro z;cases z)
  have nr:Nv≠rl2:=Yx h2.hd h2.hr (by intro z;cases z)
  have nt:Nv≠tl2:=Yx h2.hd h2.ht (by intro z;cases z)
  have br:b≠rl2:=Yx h2.hb h2.hr (by intro z;cases z)
  have bt:b≠tl2:=Yx h2.hb h2.ht (by intro z;cases z)
  generalize hO3:HO.dK (putK znE (Sum.inl (t:Int)) (V.int (rs2.length:Nat)))=o3
  have b3:upd H2 Nv o3 b=some (.ins a.zm dx2 (Mr ml2 rl2 tl2 Nv)):=by rw[zy (Ne.symm nb)];exact h2.hb
  have r3:upd H2 Nv o3 rl2=some (.lst rv2):=by rw[zy (Ne.symm nr)];exact h2.hr
  refine⟨_,rfl,b,a.zm,dx2,_,_,rfl,b3,T.zO,T.yG,rfl,.inl ⟨rfl,_,zT.of r3⟩,?_⟩
  refine⟨_,rfl,_,rfl,_,rfl,by show 3<=sizeLine;decide,fun q4 hq4=>?_⟩
  generalize hO4:HO.tup [V.int (p:Nat),V.int (k0:Nat),V.int (k1:Nat)]=o4
  have r4:upd (upd H2 Nv o3) q4 o4 rl2=some (.lst rv2):=by rw[zy (zx r3 hq4)];exact r3
  refine⟨rl2,_,_,rfl,rfl,r4,by rw[l2];exact s2,?_⟩
  have b4:upd (upd H2 Nv o3) q4 o4 b=some (.ins a.zm dx2 (Mr ml2 rl2 tl2 Nv)):=by rw[zy (zx b3 hq4)];exact b3
  have t3:upd H2 Nv o3 tl2=some (.lst (ts2.map fun t=>V.int (t:Nat))):=by rw[zy (Ne.symm nt)];exact h2.ht
  have t4:upd (upd H2 Nv o3) q4 o4 tl2=some (.lst (ts2.map fun t=>V.int (t:Nat))):=by rw[zy (zx t3 hq4)];exact t3
  have m3:upd H2 Nv o3 ml2=some (.lst (os.map V.str)):=by rw[zy (Ne.symm nm)];exact h2.hm
  have m4:upd (upd H2 Nv o3) q4 o4 ml2=some (.lst (os.map V.str)):=by rw[zy (zx m3 hq4)];exact m3
  have n3:upd H2 Nv o3 Nv=some o3:=zf
  have n4:upd (upd H2 Nv o3) q4 o4 Nv=some o3:=by rw[zy (zx n3 hq4)];exact n3
  have qr:q4≠rl2:=Ne.symm (zx r3 hq4)
  have qt:q4≠tl2:=Ne.symm (zx t3 hq4)
  have q4':upd (upd H2 Nv o3) q4 o4 q4=some o4:=zf
  have tu4:xq H2 (upd (upd H2 Nv o3) q4 o4):=fun x xs e=>by
   have e3:upd H2 Nv o3 x=some (.tup xs):=by rw[zy (Yx e h2.hd (by intro z;cases z))];exact e
   rw[zy (zx e3 hq4)];exact e3
  have aw4:∀x o,H2 x=some o->¬F x->upd (upd H2 Nv o3) q4 o4 x=some o:=fun x o e nf=>by
   have e3:upd H2 Nv o3 x=some o:=by rw[zy (fun z=>nf ((h2.ft x).mpr (.inr (.inr (.inr (.inr z))))))];exact e
   rw[zy (zx e3 hq4)];exact e3
  generalize upd (upd H2 Nv o3) q4 o4=H4 at b4 t4 m4 n4 r4 q4' tu4 aw4
  generalize hO5:HO.lst (rv2++[V.ref q4])=o5
  have b5:upd H4 rl2 o5 b=some (.ins a.zm dx2 (Mr ml2 rl2 tl2 Nv)):=by rw[zy br];exact b4
  have t5:upd H4 rl2 o5 tl2=some (.lst (ts2.map fun t=>V.int (t:Nat))):=by rw[zy (Ne.symm h2.rt)];exact t4
  refine⟨_,rfl,b,a.zm,dx2,_,_,rfl,b5,T.zO,T.wI,rfl,.inl ⟨rfl,_,zT.of t5⟩,_,rfl,tl2,_,_,rfl,rfl,t5,by rw[zuc,h2.tabs.len];exact s2,?_⟩
  generalize hO6:HO.lst (ts2.map (fun t=>V.int (t:Nat))++[V.int (t:Nat)])=o6
  have b6:upd (upd H4 rl2 o5) tl2 o6 b=some (.ins a.zm dx2 (Mr ml2 rl2 tl2 Nv)):=by rw[zy bt];exact b5
  have n6:upd (upd H4 rl2 o5) tl2 o6 Nv=some (.dK (putK znE (Sum.inl (t:Int)) (V.int (rs2.length:Nat)))):=by rw[zy nt,zy nr,n4,hO3]
  have z:=Tj.k (k:=.inl (t:Int)) n6
  rw[zab,if_pos rfl] at z
  refine⟨_,rfl,b,a.zm,dx2,_,_,rfl,b6,T.zO,T.yx,rfl,_,rfl,Nv,_,rfl,z,?_⟩
  have tu6:xq H4 (upd (upd H4 rl2 o5) tl2 o6):=fun x xs e=>by
   rw[zy (Yx e t4 (by intro z;cases z)),zy (Yx e r4 (by intro z;cases z))];exact e
  have parts:=h2.more (H':=upd (upd H4 rl2 o5) tl2 o6) (i:=p) (lo:=k0) (hi:=k1) (t:=t) (q:=q4) (fun x xs e=>tu6 _ _ (tu4 _ _ e)) (b6.trans h2.hb.symm)
   (by rw[zy h2.mt,zy h2.mr,m4,h2.hm]) (by rw[zy h2.rt,zf,hO5]) (by rw[zf,hO6]) n6
   (by rw[zy qt,zy qr,q4',hO4]) B' hn2 (vU tb fun c hc=>by rw[yn,zE.SQ hc])
  refine q rs2.length _ _ (fun x o e nf=>?_) (fun x xs e=>tu6 _ _ (tu4 _ _ (tu2 _ _ (tu1 _ _ e)))) ⟨_,_,_,_,_,_,_,_,parts⟩ (g02.trans (zE.uf.snoc _ _)) (by simp) yn (by rw[zuk,zuJ];omega) fun j a1 a2=>?_
  ·have e2:=aw2 x o (aw1 x o e nf) nf
   rw[zy (fun z=>nf ((h2.ft x).mpr (.inr (.inr (.inr (.inl z)))))),zy (fun z=>nf ((h2.ft x).mpr (.inr (.inr (.inl z)))))]
   exact aw4 x o e2 nf
  ·rw[zuk,zuJ] at a2
   by_cases hj:j<rs2.length
   ·rw[zE.Tp hj]
    have:=lvs j a1 hj
    omega
   ·have:j=rs2.length:=by omega
    subst this
    rw[zE.xY B' (i:=p) (lo:=k0) (hi:=k1) (by simp)]
    exact hup
theorem Wy (T:Txt P w K mg a)(Yw:zA P w K mg base zX k a.vW a.vX ["table", "marks"] Jw)(Vo:zA P w K mg base zX k a.Xo a.Xp ["table", "place", "value", "marks"] Pq) :
  ∀d:Nat,zA P w K mg base zX (k+d) a.wC a.wD ["self", "table"] (VD a.zm d)
 | 0=>by
  refine⟨fun vs H Q E h=>?_,fun A outer s H args us vs Q E _ _ _ _ h=>?_⟩
  ·obtain⟨b,os,rs,F,t,u,f,rfl,_⟩:=h
   rfl
  ·obtain⟨b,os,rs,F,t,u,f,_,_,_,hu,hd,_⟩:=h
   omega
 | d+1=>Nu T (Yw.mono (zuM _ _)) (Vo.mono (zuM _ _)) (Wy T Yw Vo d)
theorem zbB (T:Txt P w K mg a)(QF:zA P w K mg base zX k a.vK a.vL ["some"] zbZ)(Nx:zA P w K mg base zX k a.v9 a.uc ["order", "sentence"] (Kw K))
  (QD:zA P w K mg base zX k a.Z4 a.Z5 ["sentence", "order"] (SM K 24))(uM:zA P w K mg base zX k a.wC a.wD ["self", "table"] (VD a.zm 9)) :
  zA P w K mg base zX (k+1) a.Xg a.Xh ["self", "sentence"] (Ky (yc a.zm)):=by
 refine T.Nh.ok zbu (fun vs H Q E h=>?_) (fun cdv A outer s H vs Q E hr h=>?_)
 ·obtain⟨b,p,os,rs,F,sn,rfl,_⟩:=h
  rfl
 obtain⟨b,p,os,rs,F,sn,rfl,hB,hlen,isp,hin,hc,hd,q⟩:=h
 refine⟨_,(zj (yq (zB QF hr rfl T.X5 T.tX.2 T.X4 .nil zF (za (pv 1) zc)))
   (zj (yq (zB Nx hr rfl T.Wx T.Zw.2 T.Ww .nil zF (za (tK (pv 0) rfl) (za (pv 1) zc))))
   (zu (zH (z9 (pv 0) T.zO T.uK uM hr T.uJ .nil zF (za (zB QD hr rfl T.Qz T.Uk.2 T.Qy .nil zF (za (pv 1) (za (tK (pv 0) rfl) zc))) zc)))))),?_⟩
 have L:=xU a.zm
 have ho:=L.ord hB
 have hlt:sn.QK v8:=(Sn.Vw sn).mpr fun x hx=>ho.mem x ((Sn.Vw sn).mp hin x hx)
 refine⟨_,rfl,p,sn,rfl,isp,hlt,hc,hd,fun H1 g1=>?_⟩
 have hB1:=L.same hB g1
 obtain⟨dx,ml,rl,tl,nd,rv,ts,kvs,h1⟩:=hB1
 refine⟨_,rfl,b,a.zm,dx,_,_,rfl,h1.hb,T.zO,T.yw,rfl,_,rfl,ml,p,os,sn,rfl,zT.of h1.hm,isp.mono (xq.of g1),by omega,hin,fun H2 g2=>?_⟩
 have g12:=g1.trans g2
 have h2:=h1.frame (fun x o e _=>g2 x o e) (xq.of g2)
 refine⟨_,rfl,b,dx,_,rfl,h2.hb,rfl,_,rfl,_,rfl,b,a.zm,dx,_,_,rfl,h2.hb,T.zO,T.yw,rfl,p,ml,sn,os,rfl,isp.mono (xq.of g12),zT.of h2.hm,hin,ho.le,hd,fun N H3 g3 hN=>?_⟩
 have g13:=g12.trans g3
 have hB3:=L.same hB g13
 refine⟨b,os,rs,F,N,0,_,rfl,hB3,by show rs.length+512<=9000000;omega,zuy _,by have:=ho.le;omega,hN,fun i hi=>absurd hi (Nat.not_lt_zero _),fun j rs' H' aw tu hB' gr lt y ln _=>?_⟩
 refine q j rs' F H' (fun x o e nf=>aw x o (g13 _ _ e) nf) (fun x xs e=>tu _ _ (g13 _ _ e)) hB' (fun x hx=>.inl hx) gr lt (fun r=>?_) (by have:rs'.length+1<=rs.length+512:=ln;omega)
 rw[y]
 refine Sn.val_congr sn hin fun x hx=>?_
 show(zE.bits r os.length).testBit (ix os x)=r (ix os x)
 exact zE.YF r (Vy hx).2.1
theorem zdk (T:Txt P w K mg a)(Ji:zA P w K mg base zX k a.u6 a.u9 ["order"] (Ku K))(vO:zA P w K mg base zX k a.ur a.uw ["marks"] Xl) :
  zA P w K mg base zX (k+1) a.YJ a.Wo ["self", "order"] (zag (yc a.zm) K a.zm):=by
 refine T.KZ.ok PJ (fun vs H Q E h=>?_) (fun cdv A outer s H vs Q E hr h=>?_)
 ·obtain⟨b,dx,l,os,rfl,_⟩:=h
  rfl
 obtain⟨b,dx,l,os,rfl,hb,bd,hl,ho,q⟩:=h
 refine⟨_,(zj (yq (zB Ji hr rfl T.Uw T.YZ.2 T.Uv .nil zF (za (pv 1) zc)))
   (zj (zN (i:=2) PJ.nd rfl (Or.inl rfl) (zJ zG rfl T.wu yO (za (pv 1) zc)))
   (zj (zcB (pv 0) (Sq Q5 rfl T.zaQ zcI (za (pv 1) zc)) rfl)
   (zj (zcB (pv 0) (vg (za (vC (za (pv 2) (za zq (za zq zc)))) (za (vC (za (pv 2) (za zq (za zq zc)))) zc))) rfl)
   (zj (zcB (pv 0) (vg (za zq (za (zB vO hr rfl T.Z9 T.tW.2 T.Z8 .nil zF (za (pv 2) zc)) zc))) rfl)
   (zu (zcB (pv 0) (zkc (zdT zq zq (zdT (zB vO hr rfl T.Z9 T.tW.2 T.Z8 .nil zF (za (pv 2) zc)) zq zkb)) rfl rfl (List.cons_ne_nil _ _) (Nat.le_of_ble_eq_true rfl)) rfl))))))),?_⟩
 have n8:=ho.le
 have hml:(os.map V.str).length=os.length:=zuc _
 refine⟨_,rfl,l,os,rfl,hl,ho,fun H1 g1=>?_⟩
 have hl1:=g1.seq hl
 refine⟨_,rfl,l,_,rfl,.inl hl1,?_⟩
 rw[hml]
 have b1:=g1 _ _ hb
 refine⟨_,rfl,l,_,rfl,.inl hl1,fun ml hm1=>?_⟩
 have bm:b≠ml:=zx b1 hm1
 have b2:upd H1 ml (.lst (os.map V.str)) b=some (.ins a.zm dx []):=by rw[zy bm];exact b1
 refine⟨_,rfl,b,a.zm,dx,_,rfl,b2,T.zO,T.yw,by decide,?_⟩
 have s2:∀x o,H x=some o->x≠b->upd (upd H1 ml (.lst (os.map V.str))) b (.ins a.zm dx (ZQ "marks" (.ref ml) [])) x=some o:=fun x o e nb=>by
  rw[zy nb,zy (zx (g1 _ _ e) hm1)];exact g1 _ _ e
 have hm2:upd (upd H1 ml (.lst (os.map V.str))) b (.ins a.zm dx (ZQ "marks" (.ref ml) [])) ml=some (.lst (os.map V.str)):=by rw[zy (Ne.symm bm)];exact zf
 have f2:∀x,upd (upd H1 ml (.lst (os.map V.str))) b (.ins a.zm dx (ZQ "marks" (.ref ml) [])) x=none->H x=none:=fun x e=>by
  have nb:x≠b:=fun z=>by rw[z,zf] at e;cases e
  cases hx:H x with
  | none=>rfl
  | some o=>rw[s2 x o hx nb] at e;cases e
 have fm:H ml=none:=g1.free hm1
 have b2':upd (upd H1 ml (.lst (os.map V.str))) b (.ins a.zm dx (ZQ "marks" (.ref ml) [])) b=some (.ins a.zm dx (ZQ "marks" (.ref ml) [])):=zf
 generalize upd (upd H1 ml (.lst (os.map V.str))) b (.ins a.zm dx (ZQ "marks" (.ref ml) []))=H2 at s2 hm2 f2 b2'
 refine⟨_,rfl,by show 3<=sizeLine;decide,fun p0 hp0=>?_⟩
 refine⟨_,rfl,by show 3<=sizeLine;decide,fun p1 hp1=>?_⟩
 refine⟨by show 2<=sizeLine;decide,fun rl hrl=>?_⟩
 have g2:=((Same.new hp0 (.tup [.int (os.length:Nat),.int 0,.int 0])).trans (Same.new hp1 (.tup [.int (os.length:Nat),.int 1,.int 1]))).trans (Same.new hrl (.lst [.ref p0,.ref p1]))
 have hp0':=((Same.new hp1 (.tup [.int (os.length:Nat),.int 1,.int 1])).trans (Same.new hrl (.lst [.ref p0,.ref p1]))) p0 (.tup [.int (os.length:Nat),.int 0,.int 0]) zf
 have hp1':=(Same.new hrl (.lst [.ref p0,.ref p1])) p1 (.tup [.int (os.length:Nat),.int 1,.int 1]) zf
 have hr3:upd (upd (upd H2 p0 (.tup [.int (os.length:Nat),.int 0,.int 0])) p1 (.tup [.int (os.length:Nat),.int 1,.int 1])) rl (.lst [.ref p0,.ref p1]) rl=some (.lst [.ref p0,.ref p1]):=zf
 have frl:H2 rl=none:=((Same.new hp0 _).trans (Same.new hp1 _)).free hrl
 have brl:b≠rl:=zx b2' frl
 have mr:ml≠rl:=zx hm2 frl
 have b0:b≠p0:=zx b2' hp0
 have b1':b≠p1:=zx b2' ((Same.new hp0 _).free hp1)
 generalize upd (upd (upd H2 p0 (.tup [.int (os.length:Nat),.int 0,.int 0])) p1 (.tup [.int (os.length:Nat),.int 1,.int 1])) rl (.lst [.ref p0,.ref p1])=H3 at g2 hp0' hp1' hr3
 refine⟨_,rfl,b,a.zm,dx,_,rfl,g2 _ _ b2',T.zO,T.yG,by show 1<1000;decide,?_⟩
 generalize hfs:ZQ "rooms" (V.ref rl) (ZQ "marks" (V.ref ml) [])=fs3
 have u3:∀x,x≠b->upd H3 b (.ins a.zm dx fs3) x=H3 x:=fun x nb=>zy nb
 have b3:upd H3 b (.ins a.zm dx fs3) b=some (.ins a.zm dx fs3):=zf
 generalize upd H3 b (.ins a.zm dx fs3)=H4 at u3 b3
 refine⟨_,rfl,os.length,rfl,n8,by show 2<=sizeLine;decide,fun tl htl=>?_⟩
 have btl:b≠tl:=zx b3 htl
 have g4:=Same.new htl (.lst [.int 0,.int ((2^2^os.length-1:Nat):Int)])
 have ht5:upd H4 tl (.lst [.int 0,.int ((2^2^os.length-1:Nat):Int)]) tl=some (.lst [.int 0,.int ((2^2^os.length-1:Nat):Int)]):=zf
 generalize upd H4 tl (.lst [.int 0,.int ((2^2^os.length-1:Nat):Int)])=H5 at g4 ht5
 refine⟨_,rfl,b,a.zm,dx,_,rfl,g4 _ _ b3,T.zO,T.wI,by rw[<-hfs];show 2<1000;decide,?_⟩
 generalize znG:ZQ "tables" (V.ref tl) fs3=fs4
 have u5:∀x,x≠b->upd H5 b (.ins a.zm dx fs4) x=H5 x:=fun x nb=>zy nb
 have b5:upd H5 b (.ins a.zm dx fs4) b=some (.ins a.zm dx fs4):=zf
 generalize upd H5 b (.ins a.zm dx fs4)=H6 at u5 b5
 refine fun nd hnd=>?_
 have bnd:b≠nd:=zx b5 hnd
 have g6:=Same.new hnd (.dK [])
 refine⟨_,rfl,os.length,rfl,n8,zf,[(Sum.inl 0,.int 0),(Sum.inl ((2^2^os.length-1:Nat):Int),.int 1)],rfl,(by show 2<=15;decide),?_⟩
 rw[zjw]
 have g7:=Same.new hnd (.dK (WD [] [(Sum.inl 0,.int 0),(Sum.inl ((2^2^os.length-1:Nat):Int),.int 1)]))
 have hn7:upd H6 nd (.dK (WD [] [(Sum.inl 0,.int 0),(Sum.inl ((2^2^os.length-1:Nat):Int),.int 1)])) nd=some (.dK (WD [] [(Sum.inl 0,.int 0),(Sum.inl ((2^2^os.length-1:Nat):Int),.int 1)])):=zf
 generalize upd H6 nd (.dK (WD [] [(Sum.inl 0,.int 0),(Sum.inl ((2^2^os.length-1:Nat):Int),.int 1)]))=H7 at g7 hn7
 refine⟨_,rfl,b,a.zm,dx,_,rfl,g7 _ _ b5,T.zO,T.yx,by rw[<-znG,<-hfs];show 3<1000;decide,?_⟩
 have big:2^2^os.length-1≠0:=by
  have:2^1<=2^2^os.length:=zuH (by decide) Nat.one_le_two_pow
  omega
 have to7:∀x o,H3 x=some o->x≠b->upd H7 b (.ins a.zm dx (ZQ "numbers" (.ref nd) fs4)) x=some o:=fun x o e nb=>by
  rw[zy nb]
  refine g7 _ _ ?_
  rw[u5 x nb]
  refine g4 _ _ ?_
  rw[u3 x nb]
  exact e
 have tl6:H6 tl=some (.lst [.int 0,.int ((2^2^os.length-1:Nat):Int)]):=by rw[u5 tl (Ne.symm btl)];exact ht5
 have efs:ZQ "numbers" (.ref nd) fs4=Mr ml rl tl nd:=by rw[<-znG,<-hfs];rfl
 have up:∀x o,H3 x=some o->x≠b->H4 x=some o:=fun x o e nb=>by rw[u3 x nb];exact e
 have mt:ml≠tl:=zx (up _ _ (g2 _ _ hm2) (Ne.symm bm)) htl
 have rt:rl≠tl:=zx (up _ _ hr3 (Ne.symm brl)) htl
 have fr4:∀x,H4 x=none->H x=none:=fun x e=>f2 x (by
  cases hx:H2 x with
  | none=>rfl
  | some o =>
   by_cases nb:x=b
   ·rw[nb,b3] at e;cases e
   ·rw[up x o (g2 _ _ hx) nb] at e;cases e)
 have fr6:∀x,H6 x=none->H x=none:=fun x e=>by
  have nb:x≠b:=fun z=>by rw[z,b5] at e;cases e
  rw[u5 x nb] at e
  exact fr4 x (g4.free e)
 have two:∀{j:Nat},j<2->j=0\/j=1:=fun h=>by omega
 have bk0:zE.Bk os.length [none,none]:=⟨rfl,rfl,fun k h1 h2=>by simp at h2;omega,fun i j x e _=>by
  have:=(zuf.mp e).1
  rcases two (by simpa using this) with z | z<;>subst z<;>cases e⟩
 refine q _ (fun x=>x=b\/x=ml\/x=rl\/x=tl\/x=nd) (fun x o e nb=>to7 x o (g2 _ _ (s2 x o e nb)) nb) ⟨dx,ml,rl,tl,nd,[.ref p0,.ref p1],[0,2^2^os.length-1],WD [] [(Sum.inl 0,.int 0),(Sum.inl ((2^2^os.length-1:Nat):Int),.int 1)],?_⟩ (fun x hx=>?_)
 ·refine { hb:=by rw[zf,efs],hm:=to7 _ _ (g2 _ _ hm2) (Ne.symm bm),hr:=to7 _ _ hr3 (Ne.symm brl),ht:=by rw[zy (Ne.symm btl)];exact g7 _ _ tl6,hd:=by rw[zy (Ne.symm bnd)];exact hn7,mr:=mr,mt:=mt,rt:=rt,ord:=ho,bk:=bk0,len:=rfl,rm:=?_,tabs:=?_,nums:=?_,ft:=fun x=>Iff.rfl }
  ·intro j x e
   have:=(zuf.mp e).1
   rcases two (by simpa using this) with z | z<;>subst z<;>cases e
   ·exact⟨p0,rfl,to7 _ _ hp0' (Ne.symm b0)⟩
   ·exact⟨p1,rfl,to7 _ _ hp1' (Ne.symm b1')⟩
  ·refine⟨rfl,fun j t e=>?_⟩
   have:=(zuf.mp e).1
   rcases two (by simpa using this) with z | z<;>subst z<;>cases e
   ·exact vU (zdF _) fun b _=>rfl
   ·exact vU (Jp _) fun b _=>(zE.Ye bk0 _).symm
  ·have z0:Nums [] []:=⟨fun j t e=>by simp at e,fun t _=>rfl,zus _⟩
   have z1:=z0.snoc (t:=0) (by simp)
   exact z1.snoc (t:=2^2^os.length-1) (fun hm=>by simp at hm;omega)
 ·rcases hx with z | z | z | z | z<;>subst z
  ·exact .inl rfl
  ·exact .inr (.inr fm)
  ·exact .inr (.inr (f2 _ frl))
  ·exact .inr (.inr (fr4 _ htl))
  ·exact .inr (.inr (fr6 _ hnd))
theorem Sh (T:Txt P w K mg a):zA P w K mg base zX (k+1) a.zU a.zV ["self", "number"] (vD a.zm):=by
 refine T.Y6.ok TQ (fun vs H Q E h=>?_) (fun cdv A outer s H vs Q E hr h=>?_)
 ·obtain⟨b,os,rs,F,j,rfl,_⟩:=h
  rfl
 obtain⟨b,os,rs,F,j,rfl,⟨dx,ml,rl,tl,nd,rv,ts,kvs,h⟩,hk,q⟩:=h
 refine⟨_,(zu (yN (PW.pt (QL (zL zbL (pv 1) zq (zP _)) (U4 (zL zid (pv 1) (zJ zG rfl T.wu yO (za (tK (pv 0) rfl) zc)) (zP _))))) (zu Xu) zY)),?_⟩
 have hl:=h.len
 refine⟨_,rfl,_,_,rfl,rfl,_,rfl,yr (fun c=>absurd (of_decide_eq_true c) (by omega)) (fun _=>?_)⟩
 refine⟨_,rfl,_,rfl,b,a.zm,dx,_,_,rfl,h.hb,T.zO,T.yG,rfl,rl,_,rfl,.inl (zT.of h.hr),_,_,rfl,rfl,_,rfl,yr (fun c=>absurd (of_decide_eq_true c) (by omega)) (fun _=>?_)⟩
 exact q
theorem Kc (T:Txt P w K mg a):zA P w K mg base zX (k+1) a.yH a.yI ["self", "number"] (ZV a.zm):=by
 refine T.Uy.ok MN (fun vs H Q E h=>?_) (fun cdv A outer s H vs Q E hr h=>?_)
 ·obtain⟨b,os,rs,F,j,rfl,_⟩:=h
  rfl
 obtain⟨b,os,rs,F,j,rfl,⟨dx,ml,rl,tl,nd,rv,ts,kvs,h⟩,hk,q⟩:=h
 refine⟨_,(zu (zH (yg vh (yg yS (tK (pv 0) rfl) (pv 1) (fun _ _=>rfl)) zq (fun _ _=>rfl)))),?_⟩
 have ex:=zud hk
 obtain⟨p,e1,e2⟩:=h.rm j _ ex
 refine⟨_,rfl,b,a.zm,dx,_,_,rfl,h.hb,T.zO,T.yG,rfl,_,rfl,rl,_,_,_,rfl,rfl,zT.of h.hr,Zg e1,?_⟩
 refine⟨p,_,0,.int (zE.z8 os.length rs j:Nat),rfl,rfl,wK.of e2,?_,q⟩
 unfold zE.z8
 rw[ex]
 cases rs[j] with
 | none=>rfl
 | some t=>rfl
theorem zbC (T:Txt P w K mg a):zA P w K mg base zX (k+1) a.yU a.yV ["self", "number", "value"] (Xb a.zm):=by
 refine T.Nm.ok zbv (fun vs H Q E h=>?_) (fun cdv A outer s H vs Q E hr h=>?_)
 ·obtain⟨b,os,rs,F,j,x,v,rfl,_⟩:=h
  rfl
 obtain⟨b,os,rs,F,j,x,v,rfl,⟨dx,ml,rl,tl,nd,rv,ts,kvs,h⟩,ex,q⟩:=h
 refine⟨_,(zu (zH (yg vh (yg yS (tK (pv 0) rfl) (pv 1) (fun _ _=>rfl)) (zM xW zq (pv 2)) (fun _ _=>rfl)))),?_⟩
 obtain⟨p,e1,e2⟩:=h.rm j _ ex
 refine⟨_,rfl,b,a.zm,dx,_,_,rfl,h.hb,T.zO,T.yG,rfl,_,rfl,rl,_,_,_,rfl,rfl,zT.of h.hr,Zg e1,?_⟩
 refine⟨_,rfl,_,_,rfl,rfl,p,_,_,.int (Xw j x v:Nat),rfl,rfl,wK.of e2,?_,q⟩
 cases v<;>cases x<;>rfl
theorem za7 (T:Txt P w K mg a)(zW:zA P w K mg base zX k a.zU a.zV ["self", "number"] (vD a.zm))(yj:zA P w K mg base zX k a.yU a.yV ["self", "number", "value"] (Xb a.zm)) :
  zA P w K mg base zX (k+1) a.vM a.vN ["self", "number"] (Tt a.zm):=by
 refine T.Nk.ok Yj (fun vs H Q E h=>?_) (fun cdv A outer s H vs Q E hr h=>?_)
 ·obtain⟨b,os,rs,F,k0,rfl,_⟩:=h
  rfl
 obtain⟨b,os,rs,F,k0,rfl,hB,hk,hfew,q⟩:=h
 refine⟨_,(zj (yq (z9 (pv 0) T.zO T.yD zW hr T.yC .nil zF (za (pv 1) zc)))
   (zj (zN (i:=2) Yj.nd rfl (Or.inl rfl) zad)
   (zj (zN (i:=3) Yj.nd rfl (Or.inl rfl) (vg (za (pv 1) zc)))
   (zj (QS PassesOwn.never (zL zbM (zJ zG rfl T.wu yO (za (pv 3) zc)) zq (zP _)) (zj (zN (i:=4) Yj.nd rfl (Or.inl rfl) (zlG PySem.F.plainAttrs_list PySem.F.slot_list_pop PySem.F.type_list_pop zlH (pv 3)))
   (zu (yN (zh7 (zb3 (RD hr) (pv 4) (pv 2))) (zj (Ju (RD hr) (pv 2) (pv 4) Ut rfl)
   (zu (yq (Zh PySem.F.plainAttrs_list PySem.F.slot_list_extend PySem.F.type_list_extend zbT (pv 3) (za (vg (za (z9 (pv 0) T.zO T.xG yj hr T.xu .nil zF (za (pv 4) (za zq zc))) (za (z9 (pv 0) T.zO T.xG yj hr T.xu .nil zF (za (pv 4) (za zq zc))) zc))) zc))))) zY))))
   (zu (zH (zJ (Ml rfl) rfl T.zes zhj (za (pv 2) zc)))))))),?_⟩
 have L:=xU a.zm
 have BK:=L.bk hB
 obtain⟨dx,ml,rl,tl,nd,rv,tbs,zeC,h⟩:=hB
 have hB:yc a.zm H b os rs F:=⟨dx,ml,rl,tl,nd,rv,tbs,zeC,h⟩
 refine⟨_,rfl,b,dx,_,rfl,h.hb,rfl,_,rfl,b,os,rs,F,k0,rfl,hB,hk,?_⟩
 refine fun f hf=>?_
 refine⟨_,rfl,by show 1<=sizeLine;decide,fun t ht=>?_⟩
 have nft:f≠t:=zx zf ht
 have g0:=(Same.new hf (.dK [])).trans (Same.new ht (.lst [.int k0]))
 refine⟨fun m σ H'=>∃(ks ts:List Nat) (kvs:List (Key×V)) (f4:Option V),m=3*(rs.length-ks.length)+ts.length/\zE.Dfs rs k0 ks ts/\Same H H'/\H' f=some (.dK kvs)/\kvs.map (·.1)=ks.map (fun(n:Nat)=>(Sum.inl (n:Int):Key))/\H' t=some (.lst (ts.map fun(n:Nat)=>V.int n)) /\
   σ=[some (.ref b),some (.int k0),some (.ref f),some (.ref t),f4],
  ⟨_,[],[k0],[],none,rfl,zE.Dfs.start rs k0,g0,by rw[zy nft];exact zf,rfl,zf,rfl⟩,?_⟩
 rintro m σ H' ⟨ks,ts,kvs,f4,rfl,D,g,hf',hkv,ht',rfl⟩
 have lks:ks.length<=33:=hfew ks D.nd D.r1
 have lkv:kvs.length=ks.length:=by have:=congrArg List.length hkv;rw[zuc,zuc] at this;exact this
 refine⟨_,rfl,t,_,rfl,.inl (zT.of ht'),_,_,rfl,rfl,_,rfl,yr (fun c=>?_) (fun c=>?_)⟩
 ·have c':0<ts.length:=by have:=of_decide_eq_true c;rw[zuc] at this;omega
  obtain⟨ts',x,rfl⟩:∃ts' x,ts=ts'++[x]:=⟨ts.dropLast,ts.getLast (List.ne_nil_of_length_pos c'),(List.dropLast_concat_getLast _).symm⟩
  refine⟨_,fun σ' H2 h=>h,?_⟩
  have e1:((ts'++[x]).map fun(n:Nat)=>V.int n)[((ts'++[x]).map fun(n:Nat)=>V.int n).length-1]?=some (.int (x:Nat)):=by
   simp
  have e2:((ts'++[x]).map fun(n:Nat)=>V.int n).dropLast=ts'.map fun(n:Nat)=>V.int n:=by simp
  refine⟨_,rfl,.inl ⟨rfl,_,zT.of ht'⟩,t,_,_,rfl,rfl,ht',e1,?_⟩
  rw[e2]
  have g1:Same H (upd H' t (.lst (ts'.map fun(n:Nat)=>V.int n))):=g.over ((Same.new hf _).free ht) _
  have hf1:(upd H' t (.lst (ts'.map fun(n:Nat)=>V.int n))) f=some (.dK kvs):=by rw[zy nft];exact hf'
  refine⟨_,rfl,_,rfl,f,_,rfl,Tj.k (k:=.inl (x:Int)) hf1,?_⟩
  have hkm:(Sum.inl (x:Int):Key)∈kvs.map (·.1)↔x∈ks:=by
   rw[hkv,List.mem_map]
   exact⟨fun⟨j,hj,e⟩=>(Int.ofNat.inj (Sum.inl.inj e):j=x) ▸ hj,fun h=>⟨x,h,rfl⟩⟩
  have e3:(vm kvs (Sum.inl (x:Int):Key)).isSome=decide (x∈ks):=by rw[zdW];exact decide_eq_decide.mpr hkm
  rw[e3]
  refine⟨_,rfl,yr (fun z=>?_) (fun z=>?_)⟩
  ·have hx:x∉ks:=fun h=>by rw[decide_eq_true h] at z;cases z
   have bound:=D.room BK hk hx
   refine⟨_,rfl,_,rfl,f,_,rfl,zdQ.k (k:=.inl (x:Int)) hf1 (by rw[lkv];exact zQ (by omega)),?_⟩
   have hnone:vm kvs (Sum.inl (x:Int):Key)=none:=by rw[decide_eq_false hx] at e3;exact Option.isSome_eq_false_iff.mp e3 |> Option.isNone_iff_eq_none.mp
   rw[zac _ hnone]
   have g2:Same H (upd (upd H' t (.lst (ts'.map fun(n:Nat)=>V.int n))) f (.dK (kvs++[(Sum.inl (x:Int),V.bl true)]))):=g1.over hf _
   have zp7:(kvs++[((Sum.inl (x:Int):Key),V.bl true)]).map (·.1)=(ks++[x]).map (fun(n:Nat)=>(Sum.inl (n:Int):Key)):=by rw[zuq,zuq,hkv];rfl
   have ht2:(upd (upd H' t (.lst (ts'.map fun(n:Nat)=>V.int n))) f (.dK (kvs++[(Sum.inl (x:Int),V.bl true)]))) t=some (.lst (ts'.map fun(n:Nat)=>V.int n)):=by rw[zy (Ne.symm nft)];exact zf
   have hf2:(upd (upd H' t (.lst (ts'.map fun(n:Nat)=>V.int n))) f (.dK (kvs++[(Sum.inl (x:Int),V.bl true)]))) f=some (.dK (kvs++[(Sum.inl (x:Int),V.bl true)])):=zf
   generalize upd (upd H' t (.lst (ts'.map fun(n:Nat)=>V.int n))) f (.dK (kvs++[(Sum.inl (x:Int),V.bl true)]))=H2 at g2 ht2 hf2
   have hxl:x<rs.length:=(D.r2 x (zut _ zuv)).lt BK hk
   have hB2:=L.same hB g2
   obtain⟨rm,ex⟩:∃rm,rs[x]?=some rm:=⟨_,zud hxl⟩
   have b2:=g2 _ _ h.hb
   refine⟨_,rfl,.inl ⟨rfl,_,zT.of ht2⟩,?_⟩
   refine⟨_,rfl,b,dx,_,rfl,b2,rfl,_,rfl,b,os,rs,F,x,rm,false,rfl,hB2,ex,?_⟩
   refine⟨_,rfl,b,dx,_,rfl,b2,rfl,_,rfl,b,os,rs,F,x,rm,true,rfl,hB2,ex,?_⟩
   refine⟨by show 2<=sizeLine;decide,fun l6 hl6=>?_⟩
   have g6:=Same.new hl6 (.lst [.int (Xw x rm false:Nat),.int (Xw x rm true:Nat)])
   have D':zE.Dfs rs k0 (ks++[x]) (ts'++[Xw x rm false,Xw x rm true]):=by
    cases rm with
    | none =>
     refine D.add [x,x] hx (fun y hy=>?_) (fun i lo hi e=>by rw[ex] at e;cases e) (zus _)
     have:y=x:=by simpa using hy
     rw[this]
     exact D.r2 x (zut _ zuv)
    | some tr =>
     obtain⟨i,lo,hi⟩:=tr
     exact D.node hx ex
   refine⟨t,l6,_,_,rfl,rfl,g6 _ _ ht2,zf,?_,?_⟩
   ·have:=D.len
    rw[zuk,zuJ] at this
    rw[zuc]
    exact zuu (zQ (show ts'.length+2<=1000 by omega))
   ·refine⟨_,?_,ks++[x],ts'++[Xw x rm false,Xw x rm true],_,_,rfl,D',(g2.trans g6).over ((Same.new hf _).free ht) _,?_,zp7,?_,rfl⟩
    ·rw[zuk,zuk,zuk,zuJ]
     show 3*(rs.length-(ks.length+1))+(ts'.length+2)<_
     omega
    ·rw[zy nft];exact g6 _ _ hf2
    ·rw[zf,zuq];rfl
  ·have hx:x∈ks:=Decidable.byContradiction fun h=>z (by rw[decide_eq_false h];rfl)
   refine⟨_,?_,ks,ts',kvs,_,rfl,D.skip hx,g1,hf1,hkv,zf,rfl⟩
   rw[zuk,zuJ]
   omega
 ·have ets:ts=[]:=by
   have:¬ 0<ts.length:=fun z=>c (decide_eq_true (by rw[zuc];omega))
   exact List.length_eq_zero_iff.mp (by omega)
  subst ets
  refine⟨_,rfl,f,kvs,ks.map fun(n:Nat)=>(n:Int),rfl,hf',by rw[hkv,zuN];rfl,by rw[zuc];omega,fun l ms hl pm up=>?_⟩
  exact q l _ ms (g.trans (Same.new hl _)) (g.free hl) zf (zE.uD.of D.nd D.done pm up)
theorem zbD (T:Txt P w K mg a):zA P w K mg base zX (k+1) a.wW a.wX ["self"] (tZ (yc a.zm)):=by
 refine T.Ng.ok zbt (fun vs H Q E h=>?_) (fun cdv A outer s H vs Q E hr h=>?_)
 ·obtain⟨b,os,rs,F,rfl,_⟩:=h
  rfl
 obtain⟨b,os,rs,F,rfl,⟨dx,ml,rl,tl,nd,rv,ts,kvs,h⟩,q⟩:=h
 refine⟨_,(zu (zH (Sq Q5 rfl T.zaQ zcI (za (tK (pv 0) rfl) zc)))),?_⟩
 exact⟨_,rfl,b,a.zm,dx,_,_,rfl,h.hb,T.zO,T.yw,rfl,ml,_,rfl,.inl (zT.of h.hm),fun l hl=>q l _ (Same.new hl _) hl zf⟩
theorem zdl (T:Txt P w K mg a)(zW:zA P w K mg base zX k a.zU a.zV ["self", "number"] (vD a.zm))(yM:zA P w K mg base zX k a.yH a.yI ["self", "number"] (ZV a.zm))(yj:zA P w K mg base zX k a.yU a.yV ["self", "number", "value"] (Xb a.zm)) :
  zA P w K mg base zX (k+1) a.Wq a.Wr ["self", "number"] (zah (yc a.zm)):=by
 refine T.K3.ok zc1 (fun vs H Q E h=>?_) (fun cdv A outer s H vs Q E hr h=>?_)
 ·obtain⟨b,os,rs,F,j,x,rfl,_⟩:=h
  rfl
 obtain⟨b,os,rs,F,j,x,rfl,hB,ex,q⟩:=h
 refine⟨_,(zj (yq (z9 (pv 0) T.zO T.yD zW hr T.yC .nil zF (za (pv 1) zc)))
   (zj (yN (zL Sv (pv 1) (vC (za zq (za zq zc))) (by with_unfolding_all rfl)) (zu (zH Vq)) zY)
   (zu (zH (vC (za (yg yS (tK (pv 0) rfl) (z9 (pv 0) T.zO T.xP yM hr T.xO .nil zF (za (pv 1) zc)) (fun _ _=>rfl)) (za (z9 (pv 0) T.zO T.xG yj hr T.xu .nil zF (za (pv 1) (za zq zc))) (za (z9 (pv 0) T.zO T.xG yj hr T.xu .nil zF (za (pv 1) (za zq zc))) zc)))))))),?_⟩
 have hj:=(zuf.mp ex).1
 have BK:=(xU a.zm).bk hB
 obtain⟨dx,ml,rl,tl,nd,rv,ts,kvs,h⟩:=hB
 refine⟨_,rfl,b,dx,_,rfl,h.hb,rfl,_,rfl,b,os,rs,F,j,rfl,⟨dx,ml,rl,tl,nd,rv,ts,kvs,h⟩,hj,?_⟩
 refine⟨_,rfl,by show 2<=sizeLine;decide,fun p hp=>⟨p,_,rfl,.inr (wK.of zf),rfl,rfl,_,rfl,?_⟩⟩
 have g:=Same.new hp (.tup [.int 0,.int 1])
 have h':=h.frame (fun x o e _=>g x o e) (xq.of g)
 have hB':yc a.zm (upd H p (.tup [.int 0,.int 1])) b os rs F:=⟨dx,ml,rl,tl,nd,rv,ts,kvs,h'⟩
 have e0:(if false=true then !inV (V.int (j:Nat)) [.int 0,.int 1] else inV (V.int (j:Nat)) [.int 0,.int 1])=decide (j<2):=by
  rw[if_neg zug]
  show(((0:Int)==(j:Nat))||(((1:Int)==(j:Nat))||false))=decide (j<2)
  rw[zuR]
  simp only[Bool.or_eq_true,beq_iff_eq,Bool.or_false,decide_eq_true_eq]
  omega
 rw[e0]
 by_cases j2:j<2
 ·rw[decide_eq_true j2]
  refine JV (q _ _ g ?_)
  have:x=none:=by
   have:j=0\/j=1:=by omega
   rcases this with z | z<;>subst z
   ·rw[BK.h0] at ex;cases ex;rfl
   ·rw[BK.h1] at ex;cases ex;rfl
  subst this
  rfl
 ·rw[decide_eq_false j2]
  obtain⟨i,lo,hi,e,hin,_⟩:=BK.rm j (by omega) hj
  rw[ex] at e
  cases e
  refine Vu ?_
  have el:=zE.xY BK ex
  refine⟨_,rfl,b,a.zm,dx,_,_,rfl,h'.hb,T.zO,T.yw,rfl,_,rfl,b,dx,_,rfl,h'.hb,rfl,_,rfl,b,os,rs,F,j,rfl,hB',hj,?_⟩
  have ei:=zud hin
  refine⟨ml,_,_,.str os[i],rfl,rfl,zT.of h'.hm,by rw[el];exact Zg (by rw[zue,ei];rfl),?_⟩
  refine⟨_,rfl,b,dx,_,rfl,h'.hb,rfl,_,rfl,b,os,rs,F,j,_,false,rfl,hB',ex,?_⟩
  refine⟨_,rfl,b,dx,_,rfl,h'.hb,rfl,_,rfl,b,os,rs,F,j,_,true,rfl,hB',ex,?_⟩
  refine⟨by show 3<=sizeLine;decide,fun p2 hp2=>?_⟩
  exact q _ _ (g.trans (Same.new hp2 _)) ⟨p2,os[i],rfl,ei,zf⟩
theorem zhW (T:Txt P w K mg a):zA P w K mg base zX (k+1) a.yt a.yu ["script", "k"] (Jx K):=by
 refine T.yJ.ok Ve (fun vs H Q E h=>?_) (fun cdv A outer s H vs Q E hr h=>?_)
 ·obtain⟨l,ns,i,rfl,_⟩:=h
  rfl
 obtain⟨l,ns,i,rfl,hS,q⟩:=h
 refine⟨_,(zj (yN (zL zbL (pv 1) (zJ zG rfl T.wu yO (za (pv 0) zc)) (zP _)) (zu (zH (yg yS (pv 0) (pv 1) (fun _ _=>rfl)))) zY)
   (zu (zH zq))),?_⟩
 refine⟨_,rfl,_,rfl,l,_,rfl,.inl hS,_,_,rfl,rfl,_,rfl,?_⟩
 refine yr (fun c=>?_) (fun c=>?_)
 ·have c':(i:Int)<(((ns.map V.int).length:Nat):Int):=of_decide_eq_true c
  rw[zuc] at c'
  have hi:i<ns.length:=by omega
  have ec:uT ns i=ns[i]:=by unfold uT;rw[zud hi];rfl
  rw[ec] at q
  exact⟨_,rfl,_,rfl,l,_,i,_,rfl,rfl,hS,Zg (by rw[zue,zud hi];rfl),q⟩
 ·have hi:ns.length<=i:=by
   refine Nat.le_of_not_lt fun hlt=>c (decide_eq_true ?_)
   rw[zuc];omega
  have ec:uT ns i=0:=by unfold uT;rw[zuL hi];rfl
  rw[ec] at q
  exact q
theorem zeD (T:Txt P w K mg a)
  (yM:zA P w K mg base zX k a.yH a.yI ["self", "number"] (ZV a.zm))
  (yj:zA P w K mg base zX k a.yU a.yV ["self", "number", "value"] (Xb a.zm)):zA P w K mg base zX (k+1) a.Z6 a.Z7 ["self", "number", "place", "value"] (zgD a.zm):=by
 refine T.zaN.ok zef (fun vs H Q E h=>?_) (fun cdv A outer s H vs Q E hr h=>?_)
 ·obtain⟨b,os,rs,F,j,p,v,rfl,_⟩:=h
  rfl
 obtain⟨b,os,rs,F,j,p,v,rfl,hB,hj,hp,q⟩:=h
 refine⟨_,(zj (yN (zL vf (z9 (pv 0) T.zO T.xP yM hr T.xO .nil zF (za (pv 1) zc)) (pv 2) (zP _)) (zu (zH (z9 (pv 0) T.zO T.xG yj hr T.xu .nil zF (za (pv 1) (za (pv 3) zc))))) zY)
   (zu (zH (pv 1)))),?_⟩
 have BK:=(xU a.zm).bk hB
 have UJ:=hB
 obtain⟨dx,ml,rl,tl,nd,rv,ts,kvs,h⟩:=hB
 refine⟨_,rfl,b,dx,_,rfl,h.hb,rfl,_,rfl,b,os,rs,F,j,rfl,UJ,hj,_,rfl,rfl,_,rfl,yr (fun c=>?_) (fun c=>?_)⟩
 ·have el:zE.z8 os.length rs j=p:=by
   have:=of_decide_eq_true c
   injection this with this
   omega
  have j2:2<=j:=by
   refine Nat.le_of_not_lt fun h2=>?_
   have:j=0\/j=1:=by omega
   rcases this with z | z<;>subst z
   ·rw[zE.Mp BK] at el;omega
   ·rw[zE.Yg BK] at el;omega
  obtain⟨i,lo,hi,e,_⟩:=BK.rm j j2 hj
  rw[zE.xY BK e] at el
  subst el
  refine⟨_,rfl,b,dx,_,rfl,h.hb,rfl,_,rfl,_,rfl,b,os,rs,F,j,_,v,rfl,UJ,e,?_⟩
  have:zE.tO rs j i v=Xw j (some (i,lo,hi)) v:=by
   unfold zE.tO
   rw[e]
   exact if_pos rfl
  rw[<-this]
  exact q
 ·have el:zE.tO rs j p v=j:=by
   unfold zE.tO
   cases e:rs[j]? with
   | none=>rfl
   | some x =>
    cases x with
    | none=>rfl
    | some t =>
     obtain⟨i,lo,hi⟩:=t
     refine if_neg fun z=>c (decide_eq_true ?_)
     rw[zE.xY BK e,z]
  rw[el] at q
  exact⟨_,rfl,q⟩
theorem zeE (T:Txt P w K mg a)
  (zW:zA P w K mg base zX k a.zU a.zV ["self", "number"] (vD a.zm))
  (uN:zA P w K mg base zX k a.wW a.wX ["self"] (tZ (yc a.zm)))
  (Us:zA P w K mg base zX k a.Z6 a.Z7 ["self", "number", "place", "value"] (zgD a.zm)):zA P w K mg base zX (k+1) a.tU a.tV ["book", "room"] (Vc a.zm):=by
 refine T.XQ.ok uo (fun vs H Q E h=>?_) (fun cdv A outer s H vs Q E hr h=>?_)
 ·obtain⟨b,os,rs,F,j,rfl,_⟩:=h
  rfl
 obtain⟨b,os,rs,F,j,rfl,hB,hj,q⟩:=h
 refine⟨_,(zj (yq (z9 (pv 0) T.zO T.yD zW hr T.yC .nil zF (za (pv 1) zc)))
   (zj (zN (i:=2) uo.nd rfl (Or.inl rfl) (vg (za (vC (za (vg zc) (za (pv 1) zc))) zc)))
   (zj (uO PassesOwn.never rfl (ZM rfl T.Yv (za (zJ zG rfl T.wu yO (za (QV (pv 0) T.zO T.Zy uN hr T.Zx .nil zF) zc)) zc)) (yR (i:=3) uo.nd rfl (Or.inl rfl)) (zj (zN (i:=4) uo.nd rfl (Or.inl rfl) (vg zc))
   (zj (uO PassesOwn.never rfl (xr (pv 2)) (JM rfl (uR (yR (i:=5) uo.nd rfl (Or.inl rfl)) (uR (yR (i:=6) uo.nd rfl (Or.inl rfl)) QM))) (zj (yq (Zh PySem.F.plainAttrs_list PySem.F.slot_list_append PySem.F.type_list_append vR (pv 4) (za (vC (za (zM zgC (pv 5) (vg (za zq zc))) (za (z9 (pv 0) T.zO T.Um Us hr T.Ul .nil zF (za (pv 6) (za (pv 3) (za zq zc)))) zc))) zc)))
   (zu (yq (Zh PySem.F.plainAttrs_list PySem.F.slot_list_append PySem.F.type_list_append vR (pv 4) (za (vC (za (zM zgC (pv 5) (vg (za zq zc))) (za (z9 (pv 0) T.zO T.Um Us hr T.Ul .nil zF (za (pv 6) (za (pv 3) (za zq zc)))) zc))) zc))))))
   (zu (U9 (i:=2) uo.nd rfl (Or.inl rfl) (.inl rfl) (ZK:=zp tQ) (js:=[]) rfl (by show YL (zp tQ) _ "entry" [];exact⟨rfl,by decide +kernel,by decide +kernel,rfl,by decide +kernel,by decide +kernel,by decide +kernel⟩) rfl (xr (pv 4)) (by show ∀j∈([]:List Nat),j<7;decide) (fun cl C s₂ H₂ fp pins s' σ' H' Q I h=>wpAny_tests_one ((zL Kf (yg (Ph (K:=K) rfl) (pv 0) zq (fun _ _=>rfl)) zq (zP _)) pins s' σ' H' Q I h)) (fun cl C s₂ H₂ fp=>(pv 0)) rfl)))))
   (zu (zH (tL (ZK:=zp tQ) (js:=[]) rfl (by show YL (zp tQ) _ "entry" [];exact⟨rfl,by decide +kernel,by decide +kernel,rfl,by decide +kernel,by decide +kernel,by decide +kernel⟩) rfl (xr (pv 2)) (by show ∀j∈([]:List Nat),j<7;decide) (fun cl C s₂ H₂ fp=>(yg (Ph (K:=K) rfl) (pv 0) zq (fun _ _=>rfl))))))))),?_⟩
 have L:=xU a.zm
 have BK:=L.bk hB
 have ho:=L.ord hB
 have n8:=ho.le
 have n1:0<os.length:=ho.pos
 have UJ:=hB
 have p256:∀i,i<=os.length->(zE.Lv rs j i).length<=256:=fun i hi=>zux (zE.zgz rs j i) (zux (zuH (n:=2) (by decide) (show i<=8 by omega)) (by decide))
 obtain⟨dx,ml,rl,tl,nd,rv,ts,kvs,h⟩:=hB
 refine⟨_,rfl,b,dx,_,rfl,h.hb,rfl,_,rfl,b,os,rs,F,j,rfl,UJ,hj,?_⟩
 refine⟨by show 0<=sizeLine;decide,fun q0 hq0=>⟨_,rfl,by show 2<=sizeLine;decide,fun p0 hp0=>⟨by show 1<=sizeLine;decide,fun l0 hl0=>?_⟩⟩⟩
 have g0:=((Same.new hq0 (.lst [])).trans (Same.new hp0 (.tup [.ref q0,.int j]))).trans (Same.new hl0 (.lst [.ref p0]))
 have e0:upd (upd (upd H q0 (.lst [])) p0 (.tup [.ref q0,.int j])) l0 (.lst [.ref p0]) l0=some (.lst [.ref p0]):=zf
 have e1:=(Same.new hl0 (.lst [.ref p0])) p0 (.tup [.ref q0,.int j]) zf
 have e2:=((Same.new hp0 (.tup [.ref q0,.int j])).trans (Same.new hl0 (.lst [.ref p0]))) q0 (.lst []) zf
 have fl0:H l0=none:=((Same.new hq0 _).trans (Same.new hp0 _)).free hl0
 generalize upd (upd (upd H q0 (.lst [])) p0 (.tup [.ref q0,.int j])) l0 (.lst [.ref p0])=H0 at g0 e0 e1 e2
 refine⟨_,rfl,b,dx,_,rfl,g0 _ _ h.hb,rfl,b,os,rs,F,rfl,L.same UJ g0,fun ol H1 g1 hol hol'=>?_⟩
 refine⟨ol,_,rfl,.inl (zT.of hol'),(os.length:Int),by rw[zuc],by omega,by omega,?_⟩
 rw[zuO]
 refine ZP (fun i σ H'=>∃(l:Addr) (es:List Addr) (f3 f4 f5 f6:Option V),Same H H'/\H l=none/\H' l=some (.lst (es.map V.ref))/\Paired (zfh H H') es (zE.Lv rs j i)/\σ=[some (.ref b),some (.int j),some (.ref l),f3,f4,f5,f6])
  ⟨l0,[p0],_,_,_,_,g0.trans g1,fl0,g1 _ _ e0,.cons ⟨q0,hq0,g1 _ _ e1,g1 _ _ e2⟩ .nil,rfl⟩ ?_ ?_
 ·rintro i σ H2 hi ⟨l,es,f3,f4,f5,f6,g2,fl,hl,he,rfl⟩
  have el:=yp he
  have lt:=p256 i (by omega)
  refine⟨by show 0<=sizeLine;decide,fun lg hlg=>?_⟩
  have nl:l≠lg:=zx hl hlg
  have g3:=Same.new hlg (.lst [])
  have flg:H lg=none:=g2.free hlg
  refine⟨_,rfl,l,rfl,⟨_,zT.of (g3 _ _ hl)⟩,?_⟩
  refine Yy (xs:=es.map V.ref) (fun m σ H'=>∃(us:List Addr) (f5 f6:Option V),Same H2 H'/\H' lg=some (.lst (us.map V.ref))/\Paired (zbr lg H H') us (((zE.Lv rs j i).take m).flatMap (zE.ZL rs i))/\σ=[some (.ref b),some (.int j),some (.ref l),some (.int (0+(i:Nat))),some (.ref lg),f5,f6])
   ⟨[],_,_,g3,zf,.nil,rfl⟩ ?_ ?_ ?_
  ·rintro m σ H' _ ⟨us,f5,f6,g,_⟩
   exact zT.of (g _ _ hl)
  ·rintro m x σ H3 hx ⟨us,f5,f6,g,hL,hu,rfl⟩
   rw[zue] at hx
   cases hp:es[m]? with
   | none=>rw[hp] at hx;cases hx
   | some p =>
    rw[hp] at hx
    cases hx
    obtain⟨e,hee,q2,fq,hpt,hq2⟩:=tY he hp
    have zp8:=g _ _ hpt
    have hq3:=g _ _ hq2
    obtain⟨em,elv,eln⟩:=zk1 BK hj i (by omega) e (zuh hee)
    have ul:=yp hu
    rw[zE.Vb (zE.ZL rs i) (fun _=>rfl),zuz] at ul
    have ez:V.int (0+(i:Nat))=V.int (i:Nat):=congrArg V.int (by omega)
    refine⟨p,_,rfl,wK.of zp8,rfl,_,_,rfl,_,_,rfl,rfl,?_⟩
    refine⟨_,rfl,.inl ⟨rfl,_,zT.of hL⟩,_,rfl,by show 1<=sizeLine;decide,fun a0 ha0=>?_⟩
    have ka0:=Same.new ha0 (.lst [.int 0])
    refine⟨q2,a0,_,_,rfl,rfl,zT.of (ka0 _ _ hq3),zT.of zf,by rw[zuc,eln];exact zux (show i+1<=9 by omega) (by decide),fun r0 hr0=>?_⟩
    have nr0:r0≠lg:=Ne.symm (zx (ka0 _ _ hL) hr0)
    have fr0:H r0=none:=(g2.trans (g.trans ka0)).free hr0
    have kb0:=ka0.trans (Same.new hr0 (.lst (uP e.1++[.int 0])))
    have er0:upd (upd H3 a0 (.lst [.int 0])) r0 (.lst (uP e.1++[.int 0])) r0=some (.lst (uP (e.1++[false]))):=by rw[zf];unfold uP;rw[zuq];rfl
    generalize upd (upd H3 a0 (.lst [.int 0])) r0 (.lst (uP e.1++[.int 0]))=Hb0 at kb0 er0
    have gb0:=g2.trans (g.trans kb0)
    refine⟨_,rfl,b,dx,_,rfl,gb0 _ _ h.hb,rfl,_,rfl,_,rfl,b,os,rs,F,e.2,i,false,by rw[ez];rfl,L.same UJ gb0,em,by omega,?_⟩
    refine⟨by show 2<=sizeLine;decide,fun t0 ht0=>?_⟩
    have kt0:=Same.new ht0 (.tup [.ref r0,.int (zE.tO rs e.2 i false:Nat)])
    have kc0:=kb0.trans kt0
    have et0:upd Hb0 t0 (.tup [.ref r0,.int (zE.tO rs e.2 i false:Nat)]) t0=some (.tup [.ref r0,.int (zE.tO rs e.2 i false:Nat)]):=zf
    have es0:=kt0 _ _ er0
    generalize upd Hb0 t0 (.tup [.ref r0,.int (zE.tO rs e.2 i false:Nat)])=Hc0 at kt0 kc0 et0 es0
    have zml:=kc0 _ _ hL
    refine⟨lg,_,_,rfl,rfl,zml,by rw[zuc];(try simp only[zuk,zuJ]);exact zQ (by omega),?_⟩
    have gd0:Same H2 (upd Hc0 lg (.lst ((us).map V.ref++[.ref t0]))):=(g.trans kc0).over hlg _
    have zkH:upd Hc0 lg (.lst ((us).map V.ref++[.ref t0])) lg=some (.lst ((us++[t0]).map V.ref)):=by rw[zf];simp
    have znK:=gd0 _ _ hq2
    have znL:Paired (zbr lg H (upd Hc0 lg (.lst ((us).map V.ref++[.ref t0])))) (us++[t0]) (((zE.Lv rs j i).take m).flatMap (zE.ZL rs i)++[(e.1++[false],zE.tO rs e.2 i false)]) :=
     ZR (zb9 zml (zak hu kc0)) (.cons ⟨r0,fr0,nr0,by rw[zy (Yx et0 zml (by intro z;cases z))];exact et0,by rw[zy nr0];exact es0⟩ .nil)
    generalize upd Hc0 lg (.lst ((us).map V.ref++[.ref t0]))=Hd0 at gd0 zkH znK znL
    refine⟨_,rfl,.inl ⟨rfl,_,zT.of zkH⟩,_,rfl,by show 1<=sizeLine;decide,fun a1 ha1=>?_⟩
    have ka1:=Same.new ha1 (.lst [.int 1])
    refine⟨q2,a1,_,_,rfl,rfl,zT.of (ka1 _ _ znK),zT.of zf,by rw[zuc,eln];exact zux (show i+1<=9 by omega) (by decide),fun r1 hr1=>?_⟩
    have nr1:r1≠lg:=Ne.symm (zx (ka1 _ _ zkH) hr1)
    have fr1:H r1=none:=(g2.trans (gd0.trans ka1)).free hr1
    have kb1:=ka1.trans (Same.new hr1 (.lst (uP e.1++[.int 1])))
    have er1:upd (upd Hd0 a1 (.lst [.int 1])) r1 (.lst (uP e.1++[.int 1])) r1=some (.lst (uP (e.1++[true]))):=by rw[zf];unfold uP;rw[zuq];rfl
    generalize upd (upd Hd0 a1 (.lst [.int 1])) r1 (.lst (uP e.1++[.int 1]))=Hb1 at kb1 er1
    have gb1:=g2.trans (gd0.trans kb1)
    refine⟨_,rfl,b,dx,_,rfl,gb1 _ _ h.hb,rfl,_,rfl,_,rfl,b,os,rs,F,e.2,i,true,by rw[ez];rfl,L.same UJ gb1,em,by omega,?_⟩
    refine⟨by show 2<=sizeLine;decide,fun t1 ht1=>?_⟩
    have kt1:=Same.new ht1 (.tup [.ref r1,.int (zE.tO rs e.2 i true:Nat)])
    have kc1:=kb1.trans kt1
    have et1:upd Hb1 t1 (.tup [.ref r1,.int (zE.tO rs e.2 i true:Nat)]) t1=some (.tup [.ref r1,.int (zE.tO rs e.2 i true:Nat)]):=zf
    have es1:=kt1 _ _ er1
    generalize upd Hb1 t1 (.tup [.ref r1,.int (zE.tO rs e.2 i true:Nat)])=Hc1 at kt1 kc1 et1 es1
    have zmm:=kc1 _ _ zkH
    refine⟨lg,_,_,rfl,rfl,zmm,by rw[zuc];(try simp only[zuk,zuJ]);exact zQ (by omega),?_⟩
    have gd1:Same H2 (upd Hc1 lg (.lst (((us++[t0])).map V.ref++[.ref t1]))):=(gd0.trans kc1).over hlg _
    have znM:upd Hc1 lg (.lst (((us++[t0])).map V.ref++[.ref t1])) lg=some (.lst (((us++[t0])++[t1]).map V.ref)):=by rw[zf];simp
    have zqe:=gd1 _ _ hq2
    have znN:Paired (zbr lg H (upd Hc1 lg (.lst (((us++[t0])).map V.ref++[.ref t1])))) ((us++[t0])++[t1]) ((((zE.Lv rs j i).take m).flatMap (zE.ZL rs i)++[(e.1++[false],zE.tO rs e.2 i false)])++[(e.1++[true],zE.tO rs e.2 i true)]) :=
     ZR (zb9 zmm (zak znL kc1)) (.cons ⟨r1,fr1,nr1,by rw[zy (Yx et1 zmm (by intro z;cases z))];exact et1,by rw[zy nr1];exact es1⟩ .nil)
    generalize upd Hc1 lg (.lst (((us++[t0])).map V.ref++[.ref t1]))=Hd1 at gd1 znM zqe znN
    refine⟨us++[t0]++[t1],_,_,gd1,znM,?_,rfl⟩
    rw[yZ hee,List.flatMap_append]
    have ee:[e].flatMap (zE.ZL rs i)=[(e.1++[false],zE.tO rs e.2 i false)]++[(e.1++[true],zE.tO rs e.2 i true)]:=rfl
    rw[ee,<-List.append_assoc]
    exact znN
  ·rintro σ H3 ⟨us,f5,f6,g,hL,hu,rfl⟩
   have hml:(es.map V.ref).length=(zE.Lv rs j i).length:=by rw[zuc];exact el
   rw[hml,zuE] at hu
   have ul:=yp hu
   have hfl:=zE.Vb (zE.ZL rs i) (fun _=>rfl) (zE.Lv rs j i)
   refine⟨_,rfl,lg,rfl,⟨_,zT.of hL⟩,?_⟩
   refine Q7 (xs:=us.map V.ref) (fun m ys H'=>Same H3 H'/\∃ws:List Addr,ys=ws.map V.ref/\Paired (zfh H H') ws ((((zE.Lv rs j i).flatMap (zE.ZL rs i)).take m).filter zE.ne0)) ⟨Same.refl _,[],rfl,.nil⟩ (by rw[zuc];exact zuu (zQ (by omega))) ?_ ?_ ?_ ?_ ?_
   ·rintro m ys H' hm ⟨gg,ws,rfl,hw⟩
    have:=yp hw
    have:=zuK zE.ne0 (((zE.Lv rs j i).flatMap (zE.ZL rs i)).take m)
    rw[zuz] at this
    exact⟨zT.of (gg _ _ hL),by rw[zuc];omega⟩
   ·rintro m x ys H' hx ⟨gg,ws,rfl,hw⟩
    rw[zue] at hx
    cases hp:us[m]? with
    | none=>rw[hp] at hx;cases hx
    | some p =>
     rw[hp] at hx
     cases hx
     obtain⟨e,hee,q2,fq,nq,hpt,hq2⟩:=tY hu hp
     have hpt':=gg _ _ hpt
     refine⟨_,rfl,p,_,_,_,rfl,rfl,wK.of hpt',rfl,rfl,_,rfl,?_⟩
     have ed:(!decide (V.int (e.2:Nat)=V.int 0))=zE.ne0 e:=by
      unfold zE.ne0
      by_cases z:e.2=0
      ·rw[z];rfl
      ·have h1:¬V.int (e.2:Nat)=V.int 0:=fun y=>by injection y with y;omega
       rw[decide_eq_false h1]
       cases hh:(e.2 != 0)
       ·simp at hh;exact absurd hh z
       ·rfl
     rw[ed,yZ hee,zuP]
     cases hn:zE.ne0 e
     ·refine Vu ⟨gg,ws,rfl,?_⟩
      rw[List.filter_cons_of_neg (by rw[hn];exact zug)]
      rw[List.filter_nil,List.append_nil]
      exact hw
     ·refine JV ⟨_,rfl,gg,ws++[p],by rw[zuq];rfl,?_⟩
      rw[List.filter_cons_of_pos hn]
      exact ZR hw (.cons ⟨q2,fq,hpt',gg _ _ hq2⟩ .nil)
   ·rintro σ' H' Q1 Q2 hQ ⟨v,e1,p,xs',i',v',z1,z2,z3,z4,z5,b',z6,z7⟩
    exact⟨v,e1,p,xs',i',v',z1,z2,z3,z4,z5,b',z6,hQ _ _ z7⟩
   ·rintro σ' H' Q1 Q2 hQ ⟨v,e1,z⟩
    exact⟨v,e1,hQ _ _ z⟩
   ·rintro ys H' p ⟨gg,ws,rfl,hw⟩ hp
    rw[zuc,ul,zuE] at hw
    have gn:=Same.new hp (.lst (ws.map V.ref))
    have zqf:=g2.trans (g.trans (gg.trans gn))
    exact⟨p,ws,_,_,_,_,zqf,(g2.trans (g.trans gg)).free hp,zf,zhm hw gn,rfl⟩
 ·rintro σ H2 ⟨l,es,f3,f4,f5,f6,g2,fl,hl,he,rfl⟩
  have el:=yp he
  have lt:=p256 os.length (zus _)
  refine⟨_,rfl,l,rfl,⟨_,zT.of hl⟩,?_⟩
  refine Q7 (xs:=es.map V.ref) (fun m ys H'=>Same H2 H'/\∃ws:List Addr,ys=ws.map V.ref/\Paired (zl4 H H') ws (((zE.Lv rs j os.length).take m).map (·.1))) ⟨Same.refl _,[],rfl,.nil⟩ (by rw[zuc];exact zuu (zQ (by omega))) ?_ ?_ ?_ ?_ ?_
  ·rintro m ys H' hm ⟨gg,ws,rfl,hw⟩
   have:=yp hw
   rw[zuc,zuz] at this
   exact⟨zT.of (gg _ _ hl),by rw[zuc];omega⟩
  ·rintro m x ys H' hx ⟨gg,ws,rfl,hw⟩
   rw[zue] at hx
   cases hp:es[m]? with
   | none=>rw[hp] at hx;cases hx
   | some p =>
    rw[hp] at hx
    cases hx
    obtain⟨e,hee,q2,fq,hpt,hq2⟩:=tY he hp
    show tOp (zlD K) (JH 0) (tC (V.int 0)) (YM [some (V.ref b),some (V.int (j:Nat)),some (V.ref l),f3,f4,f5,f6] [] (some (V.ref p))) H' _
    refine⟨_,rfl,p,_,_,_,rfl,rfl,wK.of (gg _ _ hpt),rfl,gg,ws++[q2],by rw[zuq];rfl,?_⟩
    rw[yZ hee,zuq]
    exact ZR hw (.cons ⟨fq,gg _ _ hq2⟩ .nil)
  ·exact fun _ _ _ _ h q=>h _ _ q
  ·rintro σ' H' Q1 Q2 hQ ⟨v,e1,p,xs',i',v',z1,z2,z3,z4,z5⟩
   exact⟨v,e1,p,xs',i',v',z1,z2,z3,z4,hQ _ _ z5⟩
  ·rintro ys H' p ⟨gg,ws,rfl,hw⟩ hp
   rw[zuc,el,zuE,zE.zkf BK hj n1] at hw
   have gn:=Same.new hp (.lst (ws.map V.ref))
   exact q p _ ws (g2.trans (gg.trans gn)) ((g2.trans gg).free hp) zf (xX (fun _ _ r=>⟨r.1,gn _ _ r.2⟩) hw)
theorem zeF (T:Txt P w K mg a)
  (Wa:zA P w K mg base zX k a.tU a.tV ["book", "room"] (Vc a.zm)):zA P w K mg base zX (k+1) a.V1 a.V2 ["book", "room"] (zb8 a.zm):=by
 refine T.Ud.ok zd9 (fun vs H Q E h=>?_) (fun cdv A outer s H vs Q E hr h=>?_)
 ·obtain⟨b,os,rs,F,j,rfl,_⟩:=h
  rfl
 obtain⟨b,os,rs,F,j,rfl,hB,hj,q⟩:=h
 refine⟨_,(zu (zH (zJ zG rfl T.wu yO (za (zB Wa hr rfl T.Uc T.XQ.2 T.Ub .nil zF (za (pv 0) (za (pv 1) zc))) zc)))),?_⟩
 refine⟨_,rfl,_,rfl,b,os,rs,F,j,rfl,hB,hj,fun l H1 ps g1 fl hl hp=>?_⟩
 refine⟨l,_,rfl,.inl (zT.of hl),?_⟩
 rw[zuc,yp hp]
 exact q H1 g1
theorem zfZ (T:Txt P w K mg a)(yM:zA P w K mg base zX k a.yH a.yI ["self", "number"] (ZV a.zm)):zA P w K mg base zX (k+1) a.S7 a.S8 ["book", "number", "going", "known"] (zci a.zm):=by
 refine T.Rb.ok zay (fun vs H Q E h=>?_) (fun cdv A outer s H vs Q E hr h=>?_)
 ·obtain⟨b,d,os,rs,F,j,g,c,kvs,rfl,_⟩:=h
  rfl
 obtain⟨b,d,os,rs,F,j,g,c,kvs,rfl,hB,hj,hg,hl,hd,hv,hc,q⟩:=h
 refine⟨_,(zj (zN (i:=4) zay.nd rfl (Or.inl rfl) (zM NP (zM NP (z9 (pv 0) T.zO T.xP yM hr T.xO .nil zF (za (pv 2) zc)) (z9 (pv 0) T.zO T.xP yM hr T.xO .nil zF (za (pv 1) zc))) zq))
   (zu (zH (zM Zi (Jt (RD hr) (pv 3) (pv 2) (fun _ _=>rfl)) (pv 4))))),?_⟩
 have L:=xU a.zm
 have o8:=(L.ord hB).le
 have lg:=zE.WK (L.bk hB) g hg
 obtain⟨dx,ml,rl,tl,nd,rv,tbs,zeC,h⟩:=hB
 have hB:yc a.zm H b os rs F:=⟨dx,ml,rl,tl,nd,rv,tbs,zeC,h⟩
 refine⟨_,rfl,b,dx,_,rfl,h.hb,rfl,_,rfl,b,os,rs,F,g,rfl,hB,hg,?_⟩
 refine⟨_,rfl,b,dx,_,rfl,h.hb,rfl,_,rfl,b,os,rs,F,j,rfl,hB,hj,?_⟩
 refine⟨_,_,rfl,rfl,_,1,rfl,rfl,?_⟩
 have eb:((zE.z8 os.length rs g:Nat):Int)-((zE.z8 os.length rs j:Nat):Int)-1=((zE.z8 os.length rs g-zE.z8 os.length rs j-1:Nat):Int):=by omega
 show Uu 4 (V.int (((zE.z8 os.length rs g:Nat):Int)-((zE.z8 os.length rs j:Nat):Int)-1)) _ _ _
 rw[eb]
 have dg:Tj H d (V.int (g:Nat)) (some (.int (c:Nat))):=by
  have:=Tj.k (k:=iK g) hd
  rw[hv] at this
  exact this
 refine⟨_,rfl,_,rfl,d,_,rfl,dg,_,rfl,c,_,rfl,rfl,Nat.lt_of_le_of_lt hc (by decide +kernel),by omega,?_⟩
 exact q
theorem zeG (T:Txt P w K mg a)(yj:zA P w K mg base zX k a.yU a.yV ["self", "number", "value"] (Xb a.zm))(zcr:zA P w K mg base zX k a.S7 a.S8 ["book", "number", "going", "known"] (zci a.zm)):zA P w K mg base zX (k+1) a.V3 a.V4 ["book", "number", "known"] (zcj a.zm):=by
 refine T.Qv.ok zea (fun vs H Q E h=>?_) (fun cdv A outer s H vs Q E hr h=>?_)
 ·obtain⟨b,d,os,rs,F,j,kvs,rfl,_⟩:=h
  rfl
 obtain⟨b,d,os,rs,F,j,kvs,rfl,hB,hj,hd,hv,q⟩:=h
 refine⟨_,(zj (yN (zL Sv (pv 1) (vC (za zq (za zq zc))) (by with_unfolding_all rfl)) (zu (zH (pv 1))) zY)
   (zu (zH (zM xW (zB zcr hr rfl T.M5 T.Rb.2 T.M4 .nil zF (za (pv 0) (za (pv 1) (za (z9 (pv 0) T.zO T.xG yj hr T.xu .nil zF (za (pv 1) (za zq zc))) (za (pv 2) zc))))) (zB zcr hr rfl T.M5 T.Rb.2 T.M4 .nil zF (za (pv 0) (za (pv 1) (za (z9 (pv 0) T.zO T.xG yj hr T.xu .nil zF (za (pv 1) (za zq zc))) (za (pv 2) zc))))))))),?_⟩
 have L:=xU a.zm
 have BK:=L.bk hB
 refine⟨_,rfl,by show 2<=sizeLine;decide,fun p hp=>⟨p,_,rfl,.inr (wK.of zf),rfl,rfl,_,rfl,?_⟩⟩
 have g0:=Same.new hp (.tup [.int 0,.int 1])
 have ei:(if false=true then !inV (V.int (j:Nat)) [.int 0,.int 1] else inV (V.int (j:Nat)) [.int 0,.int 1])=decide (j<2):=by
  rw[if_neg zug]
  show(eqV _ _||(eqV _ _||false))=_
  rw[SX,SX,Bool.or_false]
  by_cases z:j<2
  ·rw[decide_eq_true z]
   rcases (by omega:j=0\/j=1) with e | e<;>rw[e]<;>rfl
  ·rw[decide_eq_false z,decide_eq_false (by omega),decide_eq_false (by omega)]
   rfl
 rw[ei]
 refine yr (fun z=>?_) (fun z=>?_)
 ·have z':=of_decide_eq_true z
  refine⟨_,rfl,?_⟩
  have e:(j:Int)=((zE.cn os.length rs j:Nat):Int):=by
   rcases (by omega:j=0\/j=1) with e | e<;>subst e
   ·rw[zE.zks BK]
   ·rw[zE.zl9 BK]
  show Q (V.int (j:Int)) _
  rw[e]
  exact q _ g0
 ·have z':2<=j:=by
   rcases Nat.lt_or_ge j 2 with y | y
   ·exact absurd (decide_eq_true y) z
   ·exact y
  obtain⟨i,lo,hi,ex,_⟩:=BK.rm j z' hj
  obtain⟨jl,jh,l1,l2,ec⟩:=zE.Jz BK ex hj
  obtain⟨v1,v2⟩:=hv i lo hi ex
  have lj:zE.z8 os.length rs j=i:=zE.xY BK ex
  have o8:=(L.ord hB).le
  have p8:2^os.length<=256:=zux (zuH (n:=2) (by decide) o8) (by decide)
  have c1:=zE.zk5 BK jl
  have c2:=zE.zk5 BK jh
  have UJ:=L.same hB g0
  have hd0:=g0 _ _ hd
  obtain⟨dx,ml,rl,tl,nd,rv,tbs,zeC,h⟩:=UJ
  have UJ:yc a.zm _ b os rs F:=⟨dx,ml,rl,tl,nd,rv,tbs,zeC,h⟩
  refine⟨_,rfl,_,rfl,_,rfl,b,dx,_,rfl,h.hb,rfl,_,rfl,b,os,rs,F,j,_,false,rfl,UJ,ex,?_⟩
  refine⟨_,rfl,b,d,os,rs,F,j,lo,_,kvs,rfl,UJ,hj,jl,by omega,hd0,v1,by omega,?_⟩
  refine⟨_,rfl,_,rfl,_,rfl,b,dx,_,rfl,h.hb,rfl,_,rfl,b,os,rs,F,j,_,true,rfl,UJ,ex,?_⟩
  refine⟨_,rfl,b,d,os,rs,F,j,hi,_,kvs,rfl,UJ,hj,jh,by omega,hd0,v2,by omega,?_⟩
  refine⟨_,_,rfl,rfl,?_⟩
  rw[lj]
  have e:((zE.cn os.length rs lo*2^(zE.z8 os.length rs lo-i-1):Nat):Int)+((zE.cn os.length rs hi*2^(zE.z8 os.length rs hi-i-1):Nat):Int)=((zE.cn os.length rs j:Nat):Int):=by rw[ec];exact(Int.natCast_add _ _).symm
  show Q (V.int (((zE.cn os.length rs lo*2^(zE.z8 os.length rs lo-i-1):Nat):Int)+((zE.cn os.length rs hi*2^(zE.z8 os.length rs hi-i-1):Nat):Int))) _
  rw[e]
  exact q _ g0
theorem zf0 (T:Txt P w K mg a)(ZF:zA P w K mg base zX k a.vM a.vN ["self", "number"] (Tt a.zm))(zf1:zA P w K mg base zX k a.V3 a.V4 ["book", "number", "known"] (zcj a.zm)):zA P w K mg base zX (k+1) a.PX a.P0 ["book", "room"] (zcm a.zm):=by
 refine T.zaF.ok MJ (fun vs H Q E h=>?_) (fun cdv A outer s H vs Q E hr h=>?_)
 ·obtain⟨b,os,rs,F,k0,rfl,_⟩:=h
  rfl
 obtain⟨b,os,rs,F,k0,rfl,hB,hk,hfew,q⟩:=h
 refine⟨_,(zj (zN (i:=2) MJ.nd rfl (Or.inl rfl) zad)
   (zj (uO PassesOwn.never rfl (xr (z9 (pv 0) T.zO T.Xk ZF hr T.Xj .nil zF (za (pv 1) zc))) (yR (i:=3) MJ.nd rfl (Or.inl rfl)) (zu (Ju (RD hr) (pv 2) (pv 3) (zB zf1 hr rfl T.zaH T.Qv.2 T.zaG .nil zF (za (pv 0) (za (pv 3) (za (pv 2) zc)))) rfl)))
   (zu (zH (Py rfl rfl T.zaQ (pv 2)))))),?_⟩
 have L:=xU a.zm
 have BK:=L.bk hB
 refine fun d hd=>?_
 have g0:=Same.new hd (.dK [])
 have UJ:=L.same hB g0
 obtain⟨dx,fs,QG,hm⟩:=L.ins UJ
 refine⟨_,rfl,b,dx,fs,rfl,QG,hm _ (by decide +kernel),_,rfl,b,os,rs,F,k0,rfl,UJ,hk,hfew,fun bl H1 ms g1 fbl hbl isb=>?_⟩
 have nat:∀x∈ms,∃j:Nat,x=j/\zE.Reach rs k0 j:=fun x hx=>(isb.mem x).mp hx
 have lms:=isb.len BK hk
 have o8:=(L.ord hB).le
 have p8:2^os.length<=256:=zux (zuH (n:=2) (by decide) o8) (by decide)
 have g01:=g0.trans g1
 have hd1:=g1 _ _ (show upd H d (.dK []) d=some (.dK []) from zf)
 have hdn:d≠bl:=zx zf fbl
 refine⟨bl,rfl,⟨_,zT.of hbl⟩,?_⟩
 refine Yy (xs:=ms.map V.int) (fun i σ H'=>∃f3:Option V,Same H H'/\H' bl=some (.lst (ms.map V.int))/\H' d=some (.dK ((ms.take i).map (kvI fun m=>V.int (zE.cn os.length rs m.toNat:Nat))))/\σ=[some (.ref b),some (.int (k0:Nat)),some (.ref d),f3]) ⟨_,g01,hbl,hd1,rfl⟩ (fun i σ H' _ ⟨_,g,hb',_⟩=>zT.of hb') ?_ ?_
 ·rintro i x σ H' hx ⟨f3,g,hb',hd',rfl⟩
  rw[zue] at hx
  cases hm':ms[i]? with
  | none=>rw[hm'] at hx;cases hx
  | some m =>
   rw[hm'] at hx
   cases hx
   obtain⟨j,rfl,rj⟩:=nat m (zuh hm')
   have hj:=rj.lt BK hk
   have hin:∀g:Nat,g<j->zE.Reach rs k0 g->vm ((ms.take i).map (kvI fun m=>V.int (zE.cn os.length rs m.toNat:Nat))) (iK g)=some (.int (zE.cn os.length rs g:Nat)):=fun g hg rg=>by
    have mem:(g:Int)∈ms:=(isb.mem _).mpr ⟨g,rfl,rg⟩
    obtain⟨t,ht,et⟩:=zuS mem
    have hit:t<i:=by
     rcases Nat.lt_or_ge t i with z | z
     ·exact z
     ·exfalso
      obtain⟨hi',ei'⟩:=zuf.mp hm'
      rcases Nat.lt_or_ge i t with y | y
      ·have:=List.pairwise_iff_getElem.mp isb.up i t hi' ht y
       rw[et,ei'] at this
       omega
      ·have:t=i:=by omega
       subst this
       rw[et] at ei'
       omega
    refine zat (c:=fun m=>V.int (zE.cn os.length rs m.toNat:Nat)) ?_
    rw[<-et]
    refine zuh (i:=t) ?_
    rw[List.getElem?_take,if_pos hit,zud ht]
   refine⟨_,rfl,_,rfl,_,rfl,b,d,os,rs,F,j,_,rfl,L.same hB g,hj,hd',(fun i' lo hi ex=>?_),fun H2 g2=>?_⟩
   ·have st:=rj.step ex
    have z2:2<=j:=by
     rcases Nat.lt_or_ge j 2 with z | z
     ·exfalso
      rcases (by omega:j=0\/j=1) with z | z<;>subst z
      ·rw[BK.h0] at ex;cases ex
      ·rw[BK.h1] at ex;cases ex
     ·exact z
    obtain⟨i2,lo2,hi2,e2,_,a1,a2,_⟩:=BK.rm j z2 hj
    rw[ex] at e2
    cases e2
    exact⟨hin lo a1 st.1,hin hi a2 st.2⟩
   have hd2:=g2 _ _ hd'
   refine⟨_,rfl,_,rfl,d,_,rfl,zdQ.k (k:=iK j) hd2 ?_,?_⟩
   ·rw[zuc,zuz];exact zQ (by omega)
   refine⟨_,(g.trans g2).over hd _,?_,?_,rfl⟩
   ·rw[zy (Ne.symm hdn)];exact g2 _ _ hb'
   ·rw[zf,yZ hm',zuq]
    have hnone:vm ((ms.take i).map (kvI fun m=>V.int (zE.cn os.length rs m.toNat:Nat))) (iK (j:Int))=none:=by
     refine zas fun hy=>?_
     obtain⟨t,ht,et⟩:=zuS hy
     rw[zuz] at ht
     rw[List.getElem_take] at et
     obtain⟨hi',ei'⟩:=zuf.mp hm'
     have:=List.pairwise_iff_getElem.mp isb.up t i (by omega) hi' (by omega)
     rw[et,ei'] at this
     omega
    rw[zac _ hnone]
    rfl
 ·rintro σ H' ⟨f3,g,hb',hd',rfl⟩
  rw[zuc,zuE] at hd'
  refine⟨_,rfl,d,_,rfl,hd',fun l ts H2 g2 fl hp hl=>?_⟩
  refine q l ts ms H2 (g.trans g2) (g.free fl) isb ?_ hl
  refine zcY (by have:=yp hp;rw[zuc] at this;exact this) fun j x y h1 h2=>?_
  obtain⟨kv',h3,h4,h5⟩:=tY hp h1
  rw[zue,h2] at h3
  cases h3
  exact⟨g.free h4,h5⟩
theorem zdm (T:Txt P w K mg a)(uN:zA P w K mg base zX k a.wW a.wX ["self"] (tZ (yc a.zm)))(zeH:zA P w K mg base zX k a.Wq a.Wr ["self", "number"] (zah (yc a.zm))):zA P w K mg base zX (k+1) a.Yq a.Yr ["book", "room"] (zgH a.zm):=by
 refine T.Yu.ok zaD (fun vs H Q E h=>?_) (fun cdv A outer s H vs Q E hr h=>?_)
 ·obtain⟨b,os,rs,F,k0,rfl,_⟩:=h
  rfl
 obtain⟨b,os,rs,F,k0,rfl,hB,hk,q⟩:=h
 refine⟨_,(zj (yN (zL zbL (pv 1) zq (zP _)) (zu (zH (zJ zG rfl T.wu yO (za (QV (pv 0) T.zO T.Zy uN hr T.Zx .nil zF) zc)))) zY)
   (zu (zH (Zh PySem.F.plainAttrs_list PySem.F.slot_list_index PySem.F.type_list_index Q8 (QV (pv 0) T.zO T.Zy uN hr T.Zx .nil zF) (za (yg vh (z9 (pv 0) T.zO T.K5 zeH hr T.K4 .nil zF (za (pv 1) zc)) zq (fun _ _=>rfl)) zc))))),?_⟩
 have L:=xU a.zm
 have BK:=L.bk hB
 refine⟨_,rfl,_,2,rfl,rfl,_,rfl,yr (fun z=>?_) (fun z=>?_)⟩
 ·have z':k0<2:=by have:=of_decide_eq_true z;omega
  obtain⟨dx,fs,QG,hm⟩:=L.ins hB
  refine⟨_,rfl,b,dx,fs,rfl,QG,hm _ (by decide +kernel),b,os,rs,F,rfl,hB,fun l H1 g1 fl hl=>?_⟩
  refine⟨l,_,rfl,.inl (zT.of hl),?_⟩
  have e:zE.z8 os.length rs k0=os.length:=by
   unfold zE.z8
   rcases (by omega:k0=0\/k0=1) with z | z<;>subst z
   ·rw[BK.h0]
   ·rw[BK.h1]
  rw[zuc,<-e]
  exact q _ g1
 ·have z':2<=k0:=by
   rcases Nat.lt_or_ge k0 2 with y | y
   ·exact absurd (decide_eq_true (by omega)) z
   ·exact y
  obtain⟨i,lo,hi,ex,hin,_⟩:=BK.rm k0 z' hk
  have lj:zE.z8 os.length rs k0=i:=zE.xY BK ex
  obtain⟨dx,fs,QG,hm⟩:=L.ins hB
  refine⟨_,rfl,b,dx,fs,rfl,QG,hm _ (by decide +kernel),b,os,rs,F,rfl,hB,fun l H1 g1 fl hl=>?_⟩
  have hB1:=L.same hB g1
  obtain⟨dx1,fs1,znO,hm1⟩:=L.ins hB1
  refine⟨.inl ⟨rfl,_,zT.of hl⟩,?_⟩
  refine⟨_,rfl,b,dx1,fs1,rfl,znO,hm1 _ (by decide +kernel),_,rfl,b,os,rs,F,k0,_,rfl,hB1,ex,fun v H2 g2 hv=>?_⟩
  obtain⟨p,y,rfl,hy,hp⟩:=hv
  refine⟨p,_,0,_,rfl,rfl,wK.of hp,rfl,?_⟩
  have hl2:=g2 _ _ hl
  have ho:=L.ord hB
  refine⟨l,_,_,i,rfl,rfl,zT.of hl2,rfl,?_,?_,?_⟩
  ·exact zuF.mpr fun x hx=>by obtain⟨y,_,rfl⟩:=List.mem_map.mp hx;rfl
  ·obtain⟨s1,s2,s3⟩:=Vy (zuh hy)
   rw[s1]
   refine congrArg some ?_
   exact(List.getElem?_inj s2 ho.nd).mp (s3.trans hy.symm)
  ·rw[<-lj]
   exact q _ (g1.trans g2)
theorem za8 (T:Txt P w K mg a):zA P w K mg base zX (k+1) a.vY a.vZ ["entry"] Zo:=by
 refine T.W0.ok zaA (fun vs H Q E h=>?_) (fun cdv A outer s H vs Q E hr h=>?_)
 ·obtain⟨p,sh,rfl,_⟩:=h
  rfl
 obtain⟨p,sh,rfl,hs,ok,q⟩:=h
 refine⟨_,(zu (zH (JK (uy vf (zJ zG rfl T.wu yO (za (pv 0) zc)) zq (zP _)) (zcy (zJ (YB rfl) rfl T.Nq Tc (za (tL (ZK:=zp uW) (js:=[]) rfl (by show YL (zp uW) _ "weight" [];exact⟨rfl,by decide +kernel,by decide +kernel,rfl,by decide +kernel,by decide +kernel,by decide +kernel⟩) rfl (JN (pv 0)) (by show ∀j∈([]:List Nat),j<1;decide) (fun cl C s₂ H₂ fp=>(uy zmX (zJ zif rfl T.zk9 zl6 (za (pv 0) zc)) (Wb (v:=.int 1000000) rfl T.R6 ⟨_,rfl⟩) (zP _)))) zc)))))),?_⟩
 have hT:=wK.of (K:=K) hs
 obtain⟨⟨o1,o2⟩,o3,o4⟩:=ok
 refine⟨_,rfl,p,_,rfl,.inr hT,rfl,true,rfl,JV ?_⟩
 have ab:∀{x:Int},-1000000<=x->x<=1000000->(if x<0 then -x else x)<=1000000:=fun h1 h2=>by split<;>omega
 refine⟨_,rfl,p,rfl,⟨_,hT⟩,zgt (fun i v=>v=.bl true) hT (by show 2<=sizeLine;decide) ?_ ?_ ?_⟩
 ·intro j x H' hx g
  match j,hx with
  | 0,hx =>
   cases hx
   refine⟨_,rfl,_,rfl,_,_,rfl,rfl,?_,g⟩
   show V.bl (decide _)=V.bl true
   rw[decide_eq_true (ab o1 o2)]
  | 1,hx =>
   cases hx
   refine⟨_,rfl,_,rfl,_,_,rfl,rfl,?_,g⟩
   show V.bl (decide _)=V.bl true
   rw[decide_eq_true (ab o3 o4)]
 ·rintro σ' H' Q1 Q2 hQ ⟨v,e,i',z1,i1,i2,z2,z3,z4⟩
  exact⟨v,e,i',z1,i1,i2,z2,z3,hQ _ _ z4⟩
 ·intro us H5 p5 hul hu g5 hp5
  have eu:us=([true,true]:List Bool).map V.bl:=by
   match us,hul,hu with
   | [u1,u2],_,hu=>rw[hu 0 u1 rfl,hu 1 u2 rfl];rfl
  subst eu
  exact⟨p5,[true,true],rfl,zT.of zf,q _ (g5.trans (Same.new hp5 _))⟩
theorem QJ (T:Txt P w K mg a)
  (uN:zA P w K mg base zX k a.wW a.wX ["self"] (tZ (yc a.zm)))
  (zbE:zA P w K mg base zX k a.vY a.vZ ["entry"] Zo):zA P w K mg base zX (k+1) a.xK a.xM ["book", "weights"] (Yh a.zm K):=by
 refine T.ud.ok Qs (fun vs H Q E h=>?_) (fun cdv A outer s H vs Q E hr h=>?_)
 ·obtain⟨b,l,os,rs,F,ps,sh,rfl,_⟩:=h
  rfl
 obtain⟨b,l,os,rs,F,ps,sh,rfl,hB,hS,q⟩:=h
 refine⟨_,(zu (yN (PW.pt (QL (zL Kf (zJ zG rfl T.wu yO (za (pv 1) zc)) (zJ zG rfl T.wu yO (za (QV (pv 0) T.zO T.Zy uN hr T.Zx .nil zF) zc)) (zP _)) (U4 (U5 (Yz (zJ (YB rfl) rfl T.Nq Tc (za (tL (ZK:=zp wQ) (js:=[]) rfl (by show YL (zp wQ) _ "entry" [];exact⟨rfl,by decide +kernel,by decide +kernel,rfl,by decide +kernel,by decide +kernel,by decide +kernel⟩) rfl (xr (pv 1)) (by show ∀j∈([]:List Nat),j<2;decide) (fun cl C s₂ H₂ fp=>(zB zbE hr rfl T.RZ T.W0.2 T.RX .nil zF (za (pv 0) zc)))) zc)) (fun _=>rfl)))))) (zu Xu) zY)),?_⟩
 have L:=xU a.zm
 have ho:=L.ord hB
 have UJ:=hB
 obtain⟨dx,ml,rl,tl,nd,rv,ts,kvs,h⟩:=hB
 have lp:=yp hS.at_
 refine⟨_,rfl,l,_,rfl,.inl hS.lst,?_⟩
 refine⟨_,rfl,b,dx,_,rfl,h.hb,rfl,b,os,rs,F,rfl,UJ,fun ol H1 g1 hol hol'=>?_⟩
 refine⟨ol,_,rfl,.inl (zT.of hol'),rfl,_,rfl,?_⟩
 have e1:(!decide (V.int ((ps.map V.ref).length:Nat)=V.int ((os.map V.str).length:Nat)))=false:=by
  rw[zuc,zuc,lp,hS.len,decide_eq_true rfl];rfl
 rw[e1]
 refine Vu ?_
 have hS1:=hS.mono g1
 have znP:ps.length<=1000:=by rw[lp,hS.len];exact zux ho.le (by decide)
 refine⟨_,rfl,l,rfl,⟨_,hS1.lst⟩,zkh (fun _ v=>v=.bl true) hS1.lst (by rw[zuc];exact zuu (zQ znP)) ?_ (zgq Je) ?_⟩
 ·intro i x H' hx g
  rw[zue] at hx
  cases hp:ps[i]? with
  | none=>rw[hp] at hx;cases hx
  | some p =>
   rw[hp] at hx
   cases hx
   obtain⟨s',hs',as'⟩:=tY hS1.at_ hp
   exact⟨_,rfl,p,s',rfl,xq.of g _ _ as',hS.ok s' (zuh hs'),fun H9 g9=>⟨rfl,g.trans g9⟩⟩
 ·intro ys H' p hl hy g hp
  have e2:ys=(List.replicate ys.length true).map V.bl:=by
   refine List.ext_getElem? fun i=>?_
   by_cases hi:i<ys.length
   ·rw[zue,List.getElem?_replicate,if_pos hi,zud hi]
    exact congrArg some (hy i _ (zud hi))
   ·rw[zuL (by omega),zuL (by rw[zuc,List.length_replicate];omega)]
  refine⟨p,List.replicate ys.length true,rfl,zT.of (by rw[zf,<-e2]),_,rfl,?_⟩
  have e3:(List.replicate ys.length true).all id=true:=by simp
  rw[e3]
  exact Vu (q _ (g1.trans (g.trans (Same.new hp _))))
theorem zdn (T:Txt P w K mg a):zA P w K mg base zX (k+1) a.Zc a.Zd ["row", "weights"] (VG K):=by
 refine T.T5.ok zc2 (fun vs H Q E h=>?_) (fun cdv A outer s H vs Q E hr h=>?_)
 ·obtain⟨rl,l,r,ps,sh,n,rfl,_⟩:=h
  rfl
 obtain⟨rl,l,r,ps,sh,n,rfl,hr0,hrl,n8,hS,q⟩:=h
 refine⟨_,(zu (zH (zJ (J0 rfl) rfl T.zgK ze9 (za (zl5 (ZK:=zp YH) (js:=[]) rfl (by show zk2 (zp YH) _ "value" "entry" [];exact⟨⟨rfl,by decide +kernel,by decide +kernel,by decide +kernel,by decide +kernel⟩,by decide +kernel,by decide +kernel,by decide +kernel⟩) rfl (zl1 rfl T.zld (za (pv 0) (za (pv 1) zc))) (by show ∀j∈([]:List Nat),j<2;decide) (fun cl C s₂ H₂ fp=>(yg (Ph (K:=K) rfl) (pv 1) (pv 0) (fun _ _=>rfl)))) zc)))),?_⟩
 have lp:=yp hS.at_
 have hls:=hS.len
 refine⟨_,rfl,_,rfl,rl,l,_,_,rfl,hr0,hS.lst,zl2 (fun u v z=>∀(bb:Bool) (p:Addr) (s':zE.Wg),u=.int (bb.toNat:Nat)->v=.ref p->zfj H p s'->z=.int (zE.w2 s' bb)) hr0 hS.lst (by rw[zuc,zuc];omega) (by rw[zuc];exact zuu (zQ (by omega))) ?_ ?_ ?_⟩
 ·intro i u v H' hu hv g
  rw[zue] at hu hv
  cases hb:r[i]? with
  | none=>rw[hb] at hu;cases hu
  | some bb =>
   rw[hb] at hu
   cases hu
   cases hp:ps[i]? with
   | none=>rw[hp] at hv;cases hv
   | some p =>
    rw[hp] at hv
    cases hv
    obtain⟨s',hs',as'⟩:=tY hS.at_ hp
    have hT:=wK.of (K:=K) (xq.of g _ _ as')
    refine⟨_,rfl,_,rfl,p,_,_,.int (zE.w2 s' bb),rfl,rfl,hT,by cases bb<;>rfl,fun b2 p2 s2 e1 e2 e3=>?_,g⟩
    have eb:b2=bb:=by
     injection e1 with e1
     cases b2<;>cases bb<;>first | rfl | (revert e1;decide)
    subst eb
    cases e2
    have z:=as'.symm.trans e3
    injection z with z
    injection z with z
    injection z with z1 z2
    injection z1 with z1
    injection z2 with z2
    injection z2 with z2
    have es:s'=s2:=Prod.ext z1 z2
    rw[es]
 ·rintro σ' H' Q1 Q2 hQ ⟨v1,e1,v2,e2,a1,a2,a3,a4,a5,a6,a7,a8,a9⟩
  exact⟨v1,e1,v2,e2,a1,a2,a3,a4,a5,a6,a7,a8,hQ _ _ a9⟩
 ·intro zs H' p hzl hz g hp
  have e:zs=(zE.wgl sh r).map V.int:=by
   refine List.ext_getElem? fun i=>?_
   rw[zuc] at hzl
   by_cases hi:i<r.length
   ·have hb:=zud hi
    have hs:=zud (l:=sh) (i:=i) (by omega)
    obtain⟨p2,hp2,as2⟩:=Pg hS.at_ hs
    rw[zue,zl7 hb hs,zud (by omega)]
    refine congrArg some ?_
    exact hz i _ _ _ (by rw[zue,hb];rfl) (by rw[zue,hp2];rfl) (zud (by omega)) _ p2 _ rfl rfl as2
   ·rw[zuL (by omega),zuL (by rw[zuc,zko (by omega)];omega)]
  exact⟨p,zE.wgl sh r,rfl,zT.of (by rw[zf,e]),q _ (g.trans (Same.new hp _))⟩
theorem zeI (T:Txt P w K mg a)
  (zW:zA P w K mg base zX k a.zU a.zV ["self", "number"] (vD a.zm))
  (ZG:zA P w K mg base zX k a.xK a.xM ["book", "weights"] (Yh a.zm K))
  (Wa:zA P w K mg base zX k a.tU a.tV ["book", "room"] (Vc a.zm))
  (zeJ:zA P w K mg base zX k a.Zc a.Zd ["row", "weights"] (VG K)):zA P w K mg base zX (k+1) a.V9 a.Ua ["book", "room", "weights"] (Qi a.zm K):=by
 refine T.QB.ok zeg (fun vs H Q E h=>?_) (fun cdv A outer s H vs Q E hr h=>?_)
 ·obtain⟨b,l,os,rs,F,j,ps,sh,rfl,_⟩:=h
  rfl
 obtain⟨b,l,os,rs,F,j,ps,sh,rfl,hB,hj,hS,q0,q⟩:=h
 refine⟨_,(zj (yq (z9 (pv 0) T.zO T.yD zW hr T.yC .nil zF (za (pv 1) zc)))
   (zj (yq (zB ZG hr rfl T.ZC T.ud.2 T.Zz .nil zF (za (pv 0) (za (pv 2) zc))))
   (zu (zH (zca (K:=K) rfl rfl (hu9 hr) rfl T.zer zcU (za (tL (ZK:=zp XF) (js:=[2]) rfl (by show YL (zp XF) _ "row" ["weights"];exact⟨rfl,by decide +kernel,by decide +kernel,rfl,by decide +kernel,by decide +kernel,by decide +kernel⟩) rfl (xr (zB Wa hr rfl T.Uc T.XQ.2 T.Ub .nil zF (za (pv 0) (za (pv 1) zc)))) (by show ∀j∈([2]:List Nat),j<3;decide) (fun cl C s₂ H₂ fp=>(vC (za (zB zeJ hr rfl T.K7 T.T5.2 T.K6 .nil zF (za (pv 0) (za (pv 1) zc))) (za (pv 0) zc))))) zc) Vq))))),?_⟩
 have L:=xU a.zm
 have ho:=L.ord hB
 have n8:=ho.le
 have UJ:=hB
 obtain⟨dx,ml,rl,tl,nd,rv,ts,kvs,h⟩:=hB
 refine⟨_,rfl,b,dx,_,rfl,h.hb,rfl,_,rfl,b,os,rs,F,j,rfl,UJ,hj,?_⟩
 refine⟨_,rfl,_,rfl,b,l,os,rs,F,ps,sh,rfl,UJ,hS,fun H1 g1=>?_⟩
 refine⟨_,rfl,_,rfl,b,os,rs,F,j,rfl,L.same UJ g1,hj,fun yl H2 ys g2 fyl hyl hys=>?_⟩
 have g12:=g1.trans g2
 have hS2:=hS.mono g12
 have ly:=yp hys
 have ztl:(zE.wJ os.length rs j).length<=256:=zux (zE.zhl _ _ _) (zux (zuH (n:=2) (by decide) n8) (by decide))
 refine⟨yl,rfl,⟨_,zT.of hyl⟩,?_⟩
 refine Q7 (xs:=ys.map V.ref) (fun m zs H'=>Same H2 H'/\∃qs:List Addr,zs=qs.map V.ref/\Paired (fun(q:Addr) (pr:Addr×List Bool)=>H2 q=none/\H' q=some (.tup [.int (zE.wg sh pr.2),.ref pr.1])) qs ((ys.zip (zE.wJ os.length rs j)).take m)) ⟨Same.refl _,[],rfl,.nil⟩ (by rw[zuc];exact zuu (zQ (by omega))) ?_ ?_ (fun _ _ _ _ h q=>h _ _ q) ?_ ?_
 ·rintro m zs H' hm ⟨g,qs,rfl,hq⟩
  have e:=yp hq
  rw[zuz] at e
  exact⟨zT.of (g _ _ hyl),by rw[zuc];omega⟩
 ·rintro m x zs H' hx ⟨g,qs,rfl,hq⟩
  rw[zue] at hx
  cases hp:ys[m]? with
  | none=>rw[hp] at hx;cases hx
  | some rp =>
   rw[hp] at hx
   cases hx
   obtain⟨r,hr',fr,ar⟩:=tY hys hp
   have hz:(ys.zip (zE.wJ os.length rs j))[m]?=some (rp,r):=List.getElem?_zip_eq_some.mpr ⟨hp,hr'⟩
   refine znv (JV ?_)
   refine⟨_,rfl,_,rfl,rp,l,r,ps,sh,os.length,rfl,zT.of (g _ _ ar),zE.zaj (zuh hr'),n8,hS2.mono g,fun H3 g3=>?_⟩
   refine⟨_,rfl,by show 2<=sizeLine;decide,fun t ht=>?_⟩
   have g4:=Same.new ht (.tup [.int (zE.wg sh r),.ref rp])
   refine⟨g.trans (g3.trans g4),qs++[t],by rw[zuq];rfl,?_⟩
   rw[yZ hz]
   exact ZR (xX (fun _ _ z=>⟨z.1,g4 _ _ (g3 _ _ z.2)⟩) hq) (.cons ⟨(g.trans g3).free ht,zf⟩ .nil)
 ·rintro σ' H' Q1 Q2 hQ ⟨v1,e1,v2,e2,a1,a2,a3,a4,a5,a6,b1,b2,b3,b4,b5,b6⟩
  refine⟨v1,e1,v2,e2,a1,a2,a3,a4,a5,a6,b1,b2,b3,b4,b5,fun H3 g3=>?_⟩
  obtain⟨v3,e3,c1,c2⟩:=b6 H3 g3
  exact⟨v3,e3,c1,fun t ht=>hQ _ _ (c2 t ht)⟩
 ·rintro zs H' zl ⟨g,qs,rfl,hq⟩ hzl
  have lz:(ys.zip (zE.wJ os.length rs j)).length=ys.length:=by rw[List.length_zip];omega
  rw[zuc,<-lz,zuE] at hq
  have g5:=Same.new hzl (.lst (qs.map V.ref))
  have lq:=yp hq
  have gA:=g12.trans (g.trans g5)
  have znQ:(upd H' zl (.lst (qs.map V.ref))) zl=some (.lst (qs.map V.ref)):=zf
  have hq5:Paired (fun(q:Addr) (pr:Addr×List Bool)=>H2 q=none/\(upd H' zl (.lst (qs.map V.ref))) q=some (.tup [.int (zE.wg sh pr.2),.ref pr.1])) qs (ys.zip (zE.wJ os.length rs j)):=xX (fun _ _ z=>⟨z.1,g5 _ _ z.2⟩) hq
  have znR:Paired (zl4 H1 (upd H' zl (.lst (qs.map V.ref)))) ys (zE.wJ os.length rs j):=xX (fun _ _ z=>⟨z.1,g5 _ _ (g _ _ z.2)⟩) hys
  generalize upd H' zl (.lst (qs.map V.ref))=H5 at gA znQ hq5 znR
  refine⟨zl,qs.map V.ref,.non,rfl,rfl,zT.of znQ,?_⟩
  have item:∀(i:Nat) (x:V),(qs.map V.ref)[i]?=some x->∃(qa ra:Addr) (r:List Bool),x=.ref qa/\H2 qa=none/\H5 qa=some (.tup [.int (zE.wg sh r),.ref ra])/\(zE.wJ os.length rs j)[i]?=some r/\H1 ra=none/\H5 ra=some (.lst (uP r)):=fun i x hx=>by
   rw[zue] at hx
   cases hp:qs[i]? with
   | none=>rw[hp] at hx;cases hx
   | some qa =>
    rw[hp] at hx
    cases hx
    obtain⟨⟨ra,r⟩,hz,f1,f2⟩:=tY hq5 hp
    obtain⟨h1,h2⟩:=List.getElem?_zip_eq_some.mp hz
    obtain⟨r',hr',f3,f4⟩:=tY znR h1
    have er:r'=r:=zuG (hr'.symm.trans h2)
    subst er
    exact⟨qa,ra,r',rfl,f1,f2,hr',f3,f4⟩
  cases hL:zE.wJ os.length rs j with
  | nil =>
   refine .inl ⟨?_,q0 _ gA hL⟩
   have:qs.length=0:=by rw[lq,lz,ly,hL];rfl
   rw[List.length_eq_zero_iff.mp this]
   rfl
  | cons r0 rest =>
   have hpos:0<(zE.wJ os.length rs j).length:=by rw[hL];exact Nat.succ_pos _
   rw[<-hL] at *
   have lql:(qs.map V.ref).length=(zE.wJ os.length rs j).length:=by rw[zuc,lq,lz,ly]
   have gd:∀{i:Nat} {r:List Bool},(zE.wJ os.length rs j)[i]?=some r->(zE.wJ os.length rs j).getD i []=r:=fun h=>by rw[zup,h];rfl
   refine .inr ⟨fun i i2=>zao (zE.wg sh ((zE.wJ os.length rs j).getD i [])) (zE.wg sh ((zE.wJ os.length rs j).getD i2 [])) ((zE.wJ os.length rs j).getD i []) ((zE.wJ os.length rs j).getD i2 []),by omega,fun i i2 x y hx hy=>?_,fun v hv=>?_⟩
   ·obtain⟨qa,ra,r,rfl,f1,f2,f3,f4,f5⟩:=item i x hx
    obtain⟨qb,rb,t,rfl,e1,e2,e3,e4,e5⟩:=item i2 y hy
    dsimp only
    rw[gd f3,gd e3]
    exact zkn (wK.of f2) (wK.of e2) (zT.of f5) (zT.of e5) ((zE.zaj (zuh f3)).trans (zE.zaj (zuh e3)).symm)
   ·obtain⟨qa,ra,r,rfl,f1,f2,f3,f4,f5⟩:=item _ v hv
    have rise:=List.pairwise_iff_getElem.mp (zE.zhr os.length rs j)
    obtain⟨b1,b2,b3⟩:=zE.RL (w:=fun i=>zE.wg sh ((zE.wJ os.length rs j).getD i [])) (n:=(zE.wJ os.length rs j).length) (bt:=fun i i2=>zao (zE.wg sh ((zE.wJ os.length rs j).getD i [])) (zE.wg sh ((zE.wJ os.length rs j).getD i2 [])) ((zE.wJ os.length rs j).getD i []) ((zE.wJ os.length rs j).getD i2 [])) (fun i i2 h1 h2=>by
     have r1:=rise i2 i (by omega) h2 h1
     have x1:=gd (zud h2)
     have x2:=gd (zud (show i2<(zE.wJ os.length rs j).length by omega))
     rw[x1,x2]
     exact zd1 (zE.Qh r1)) ((zE.wJ os.length rs j).length-1) (by omega)
    rw[lql] at f3
    refine q qa ra H5 r gA (g12.free f1) (g1.free f4) ⟨_,f3,fun i t ht=>?_,fun i t hi ht=>?_⟩ f2 f5
    ·have hi:=(zuf.mp ht).1
     have w:=b2 i (by omega)
     rw[gd f3,gd ht] at w
     exact w
    ·have w:=b3 i hi
     rw[gd f3,gd ht] at w
     exact w
theorem zhX (T:Txt P w K mg a):zA P w K mg base zX (k+1) a.Vf a.Vg ["order", "row"] (Jr K):=by
 refine T.zaM.ok zhy (fun vs H Q E h=>?_) (fun cdv A outer s H vs Q E hr h=>?_)
 ·obtain⟨l,r,xs,ns,rfl,_⟩:=h
  rfl
 obtain⟨l,r,xs,ns,rfl,hl,hq,hz,q⟩:=h
 refine⟨_,(zu (zH (JK (uy vf (zJ zG rfl T.wu yO (za (pv 1) zc)) (zJ zG rfl T.wu yO (za (pv 0) zc)) (zP _)) (zcy (zJ (YB rfl) rfl T.Nq Tc (za (tL (ZK:=zp Tw) (js:=[]) rfl (by show YL (zp Tw) _ "value" [];exact⟨rfl,by decide +kernel,by decide +kernel,rfl,by decide +kernel,by decide +kernel,by decide +kernel⟩) rfl (xr (pv 1)) (by show ∀j∈([]:List Nat),j<2;decide) (fun cl C s₂ H₂ fp=>(uy (zlS (K:=K) rfl) (pv 0) (vC (za zq (za zq zc))) (by with_unfolding_all rfl)))) zc)))))),?_⟩
 have hlen:(ns.map V.int).length=ns.length:=zuc _
 refine⟨_,rfl,r,_,rfl,.inl hq,_,rfl,l,_,rfl,.inl hl,rfl,_,rfl,yr (fun c=>?_) (fun c=>?_)⟩
 ·have c':ns.length=xs.length:=by
   have:=of_decide_eq_true c
   injection this with this
   rw[hlen] at this;omega
  refine⟨_,rfl,r,rfl,⟨_,hq⟩,zcM (fun x v=>v=(match x with | .int i=>.bl (i==0||i==1) | _=>.non)) hq (by rw[hlen];exact zuu (zQ hz)) ?_ ?_ ?_⟩
  ·intro i x H' hx g
   rw[zue] at hx
   cases ho:ns[i]? with
   | none=>rw[ho] at hx;cases hx
   | some y =>
    rw[ho] at hx
    cases hx
    refine⟨_,rfl,by show 2<=sizeLine;decide,fun p hp=>⟨p,_,rfl,.inr (wK.of zf),rfl,rfl,?_,g.trans (Same.new hp _)⟩⟩
    show V.bl ((0==y)||((1==y)||false))=V.bl (y==0||y==1)
    have e0:((0:Int)==y)=(y==0):=by rw[zuR];simp;exact eq_comm
    have e1:((1:Int)==y)=(y==1):=by rw[zuR];simp;exact eq_comm
    rw[e0,e1,Bool.or_false]
  ·rintro σ' H' Q1 Q2 hQ ⟨v,e,z,h2⟩
   exact⟨v,e,z,fun p hp=>let ⟨a1,a2,a3,a4,a5,a6,a7⟩:=h2 p hp;⟨a1,a2,a3,a4,a5,a6,hQ _ _ a7⟩⟩
  ·intro ys H' p hr' g hp
   have e:=Mg (f:=fun x=>match x with | .int i=>.bl (i==0||i==1) | _=>.non) hr'
   have e2:ys=(ns.map fun i=>(i==0||i==1)).map V.bl:=by rw[e,zuN,zuN];rfl
   subst e2
   refine⟨p,_,rfl,zT.of zf,?_⟩
   have e4:(ns.map fun i=>(i==0||i==1)).all id=zdL xs.length ns:=by
    unfold zdL
    rw[decide_eq_true c',Bool.true_and,List.all_map]
    rfl
   rw[e4]
   exact q _ (g.trans (Same.new hp _))
 ·have e4:zdL xs.length ns=false:=by
   unfold zdL
   rw[decide_eq_false (fun z=>c (decide_eq_true (by rw[hlen,z]))),Bool.false_and]
  rw[<-e4]
  exact q _ (Same.refl _)
theorem za9 (T:Txt P w K mg a)(zjl:zA P w K mg base zX k a.Vf a.Vg ["order", "row"] (Jr K)):zA P w K mg base zX (k+1) a.Ym a.Yn ["order", "row"] (zb0 K):=by
 refine T.WY.ok zaz (fun vs H Q E h=>?_) (fun cdv A outer s H vs Q E hr h=>?_)
 ·obtain⟨l,r,xs,ns,rfl,_⟩:=h
  rfl
 obtain⟨l,r,xs,ns,rfl,h1,h2,h3,h4,q⟩:=h
 refine⟨_,(zu (yN (U5 (Yz (zB zjl hr rfl T.zem T.zaM.2 T.zel .nil zF (za (pv 0) (za (pv 1) zc))) (fun _=>rfl))) (zu Xu) zY)),?_⟩
 refine⟨_,rfl,_,rfl,l,r,xs,ns,rfl,h1,h2,h3,fun H' g=>⟨_,rfl,?_⟩⟩
 rw[h4]
 exact Vu (q H' g)
theorem Kd (T:Txt P w K mg a)
  (zW:zA P w K mg base zX k a.zU a.zV ["self", "number"] (vD a.zm))
  (zbF:zA P w K mg base zX k a.Ym a.Yn ["order", "row"] (zb0 K))
  (Us:zA P w K mg base zX k a.Z6 a.Z7 ["self", "number", "place", "value"] (zgD a.zm)):zA P w K mg base zX (k+1) a.tD a.tE ["self", "number", "row"] (Kz a.zm K):=by
 refine T.Ux.ok uF (fun vs H Q E h=>?_) (fun cdv A outer s H vs Q E hr h=>?_)
 ·obtain⟨b,rl,os,rs,F,j,r,rfl,_⟩:=h
  rfl
 obtain⟨b,rl,os,rs,F,j,r,rfl,hB,hj,hR,hl,q⟩:=h
 refine⟨_,(zj (yq (z9 (pv 0) T.zO T.yD zW hr T.yC .nil zF (za (pv 1) zc)))
   (zj (yq (zB zbF hr rfl T.RW T.WY.2 T.RV .nil zF (za (tK (pv 0) rfl) (za (pv 2) zc))))
   (zj (uO PassesOwn.never rfl (zjU rfl T.K9 (za (pv 2) zc)) (JM rfl (uR (yR (i:=3) uF.nd rfl (Or.inl rfl)) (uR (yR (i:=4) uF.nd rfl (Or.inl rfl)) QM))) (zu (zN (i:=1) uF.nd rfl (Or.inl rfl) (z9 (pv 0) T.zO T.Um Us hr T.Ul .nil zF (za (pv 1) (za (pv 3) (za (pv 4) zc)))))))
   (zu (zH (pv 1)))))),?_⟩
 have L:=xU a.zm
 have BK:=L.bk hB
 have ho:=L.ord hB
 have UJ:=hB
 have hlen:(os.map V.str).length=os.length:=zuc _
 obtain⟨dx,ml,rml,tl,nd,rv,ts,kvs,h⟩:=hB
 refine⟨_,rfl,b,dx,_,rfl,h.hb,rfl,_,rfl,b,os,rs,F,j,rfl,UJ,hj,?_⟩
 have hR':=hR
 rw[zhe] at hR'
 refine⟨_,rfl,b,a.zm,dx,_,_,rfl,h.hb,T.zO,T.yw,rfl,_,rfl,ml,rl,_,_,rfl,zT.of h.hm,hR',by rw[zuc,hl];exact zux ho.le (by decide),by rw[hlen];exact zfd r hl,fun H1 g1=>?_⟩
 refine⟨_,rfl,rl,uP r,rfl,g1.seq hR,?_⟩
 have len:(uP r).length=r.length:=zuc _
 refine ziA (xs:=uP r) (fun i σ H'=>Same H H'/\∃(f3 f4:Option V),σ=[some (.ref b),some (.int (zE.wk rs j (zE.xV r) i:Nat)),some (.ref rl),f3,f4]) ⟨g1,_,_,rfl⟩ ?_ ?_ ?_
 ·rintro i σ H' _ ⟨g,_⟩
  exact g.seq hR
 ·rintro i x σ H' p hx ⟨g,f3,f4,rfl⟩ hp
  have hi:i<r.length:=by
   have:=(zuf.mp hx).1
   rw[len] at this;exact this
  have ex:x=V.int ((zE.xV r i).toNat:Nat):=by
   unfold uP at hx
   rw[zue,zud hi] at hx
   unfold zE.xV
   rw[zup,zud hi]
   exact(zuG hx).symm
  subst ex
  refine⟨p,_,rfl,wK.of zf,rfl,_,_,rfl,_,_,rfl,rfl,?_⟩
  have g2:=g.trans (Tg hp (.tup [.int (i:Nat),.int ((zE.xV r i).toNat:Nat)]))
  obtain⟨w1,w2,w3⟩:=zE.zcT BK hj (zE.xV r) i (by omega)
  refine⟨_,rfl,b,dx,_,rfl,g2 _ _ h.hb,rfl,_,rfl,_,rfl,_,rfl,b,os,rs,F,_,i,zE.xV r i,rfl,L.same UJ g2,w1,by omega,?_⟩
  exact⟨g2,_,_,rfl⟩
 ·rintro σ H' ⟨g,f3,f4,rfl⟩
  refine⟨_,rfl,?_⟩
  rw[len,hl]
  have e:=zE.ziU BK hj (zE.xV r)
  obtain⟨w1,w2,w3⟩:=zE.zcT BK hj (zE.xV r) os.length (zus _)
  have e2:zE.wk rs j (zE.xV r) os.length=(zE.yes rs j (zE.xV r)).toNat:=by
   rw[<-e]
   by_cases h2:2<=zE.wk rs j (zE.xV r) os.length
   ·exfalso
    obtain⟨i,lo,hi,e,hin,_⟩:=BK.rm _ h2 w1
    rw[zE.xY BK e] at w2
    omega
   ·have:zE.wk rs j (zE.xV r) os.length=0\/zE.wk rs j (zE.xV r) os.length=1:=by omega
    rcases this with z | z<;>rw[z]<;>rfl
  rw[e2]
  exact q H' g
theorem zhY (T:Txt P w K mg a)
  (Wa:zA P w K mg base zX k a.tU a.tV ["book", "room"] (Vc a.zm)):zA P w K mg base zX (k+1) a.PL a.PN ["book", "room", "number"] (zgE a.zm):=by
 refine T.zaE.ok zcn (fun vs H Q E h=>?_) (fun cdv A outer s H vs Q E hr h=>?_)
 ·obtain⟨b,os,rs,F,j,m,r,rfl,_⟩:=h
  rfl
 obtain⟨b,os,rs,F,j,m,r,rfl,hB,hj,hm,q⟩:=h
 refine⟨_,(zj (zN (i:=3) zcn.nd rfl (Or.inl rfl) (zB Wa hr rfl T.Uc T.XQ.2 T.Ub .nil zF (za (pv 0) (za (pv 1) zc))))
   (zj (yN (PW.pt (QL (zL zbL (pv 2) zq (zP _)) (U4 (zL zid (pv 2) (zJ zG rfl T.wu yO (za (pv 3) zc)) (zP _))))) (zu Xu) zY)
   (zu (zH (yg yS (pv 3) (pv 2) (fun _ _=>rfl)))))),?_⟩
 refine⟨_,rfl,_,rfl,b,os,rs,F,j,rfl,hB,hj,fun l H1 ps g1 fl hl hp=>?_⟩
 have el:=yp hp
 obtain⟨lm,em⟩:=zuf.mp hm
 have lps:(ps.map V.ref).length=(zE.wJ os.length rs j).length:=by rw[zuc,el]
 refine⟨_,rfl,_,_,rfl,rfl,_,rfl,yr (fun c=>absurd (of_decide_eq_true c) (by omega)) (fun _=>?_)⟩
 refine⟨_,rfl,_,rfl,l,_,rfl,.inl (zT.of hl),_,_,rfl,rfl,_,rfl,yr (fun c=>absurd (of_decide_eq_true c) (by omega)) (fun _=>?_)⟩
 have hpm:m<ps.length:=by omega
 have hps:ps[m]?=some ps[m]:=zud hpm
 obtain⟨r',hr',f1,f2⟩:=tY hp hps
 rw[hm] at hr'
 cases hr'
 refine⟨_,rfl,_,rfl,l,_,_,_,rfl,rfl,zT.of hl,?_,q _ H1 g1 f1 f2⟩
 exact Zg (by rw[zue,hps];rfl)
theorem zba (T:Txt P w K mg a)(yL:zA P w K mg base zX k a.wY a.wZ ["cell", "k", "bound"] Ma):zA P w K mg base zX (k+1) a.tG a.tH ["cell", "size"] Pu:=by
 refine T.Y5.ok uG (fun vs H Q E h=>?_) (fun cdv A outer s H vs Q E hr h=>?_)
 ·obtain⟨c,n,rfl,_⟩:=h
  rfl
 obtain⟨c,n,rfl,n8,q⟩:=h
 refine⟨_,(zj (zN (i:=2) uG.nd rfl (Or.inl rfl) (vg zc))
   (zj (uO PassesOwn.never rfl (ZM rfl T.Yv (za (pv 1) zc)) (yR (i:=3) uG.nd rfl (Or.inr rfl)) (zj (U9 (tt:=Qd) (i:=4) uG.nd rfl (Or.inl rfl) (.inl rfl) (ZK:=zp vQ) (js:=[0,3]) rfl (by show YL (zp vQ) _ "j" ["cell", "k"];exact⟨rfl,by decide +kernel,by decide +kernel,rfl,by decide +kernel,by decide +kernel,by decide +kernel⟩) rfl (ZM rfl T.Yv (za zq zc)) (by show ∀j∈([0,3]:List Nat),j<5;decide) (fun cl C s₂ H₂ fp pins s' σ' H' Q I h=>wpAny_pure ⟨H',I,h⟩) (fun cl C s₂ H₂ fp=>(zM NP (zB yL hr rfl T.yX T.yK.2 T.yW .nil zF (za (pv 1) (za (zM xW (zM NQ zq (pv 2)) (pv 0)) (za zq zc)))) zq)) rfl)
   (zj (yN (zL vf (zB yL hr rfl T.yX T.yK.2 T.yW .nil zF (za (pv 0) (za (zM xW zq (pv 3)) (za zq zc)))) zq (zP _)) (zu (zlr (yg yS (vg (za zq (za (zib zeT zq) zc))) (zB yL hr rfl T.yX T.yK.2 T.yW .nil zF (za (pv 0) (za (zM xW zq (pv 3)) (za zq zc)))) (fun _ _=>rfl)) (zlp (pv 4) (zM Ze (pv 3) zq) set_list))) zY)
   (zu (yq (Zh PySem.F.plainAttrs_list PySem.F.slot_list_append PySem.F.type_list_append vR (pv 2) (za (vC (za (yg yS (pv 4) zq (fun _ _=>rfl)) (za (yg yS (pv 4) zq (fun _ _=>rfl)) zc))) zc)))))))
   (zu (zH (pv 2))))),?_⟩
 refine⟨by show 0<=sizeLine;decide,fun l hl=>?_⟩
 refine⟨_,rfl,((n:Nat):Int),rfl,by omega,by omega,?_⟩
 rw[zuO]
 refine ZP (fun i σ H'=>∃(ps:List Addr) (ws:List zE.Wg) (f3 f4:Option V),Same H H'/\H' l=some (.lst (ps.map V.ref))/\Paired (zfj H') ps ws/\ws.length=i/\(∀s∈ws,zhs s)/\σ=[some (.int c),some (.int (n:Nat)),some (.ref l),f3,f4])
  ⟨[],[],_,_,Same.new hl _,zf,.nil,rfl,fun s hs=>by simp at hs,rfl⟩ ?_ ?_
 ·rintro i σ H1 hi ⟨ps,ws,f3,f4,g1,hl1,hp1,lw,ok,rfl⟩
  have e0:(0:Int)+(i:Nat)=((i:Nat):Int):=by omega
  refine⟨2,rfl,by decide,by decide,?_⟩
  refine zit (lo:=0) (n:=2) (fun m zs H2=>Same H1 H2/\zs.length=m/\∀x∈zs,∃v:Int,x=.int v/\-4<=v/\v<=4) ⟨Same.refl _,rfl,fun x hx=>by simp at hx⟩ (by decide) ?_ ?_ (fun _ _ _ _ h q=>h _ _ q) ?_ ?_
  ·rintro m zs H2 hm ⟨g2,lz,hz⟩
   omega
  ·rintro m zs H2 hm ⟨g2,lz,hz⟩
   refine znv (JV ?_)
   have em:(2:Int)*(0+(i:Nat))+(0+(m:Nat))=((2*i+m:Nat):Int):=by omega
   refine⟨_,rfl,_,rfl,2,_,rfl,rfl,.inl ⟨by decide,by decide⟩,_,rfl,_,_,rfl,rfl,c,2*i+m,9,congrArg (fun z=>[V.int c,V.int z,V.int 9]) em,by omega,by decide,by decide,fun r r0 r1=>?_⟩
   refine⟨r,4,rfl,rfl,g2,by rw[zuk,lz];rfl,fun x hx=>?_⟩
   rcases List.mem_append.mp hx with z | z
   ·exact hz x z
   ·have e:x=.int (r-4):=by simpa using z
    exact⟨r-4,e,by omega,by omega⟩
  ·rintro σ' H2 Q1 Q2 hQ ⟨v1,e1,v2,e2,i1,i2,z1,z2,z3,v3,e3,i3,i4,z4,z5,c',k',b',y1,y2,y3,y4,y5⟩
   refine⟨v1,e1,v2,e2,i1,i2,z1,z2,z3,v3,e3,i3,i4,z4,z5,c',k',b',y1,y2,y3,y4,fun r r0 r1=>?_⟩
   obtain⟨j1,j2,x1,x2,x3⟩:=y5 r r0 r1
   exact⟨j1,j2,x1,x2,hQ _ _ x3⟩
  ·rintro zs H2 pl ⟨g2,lz,hz⟩ hpl
   obtain⟨u,v,rfl,hu,hv⟩:∃u v:Int,zs=[.int u,.int v]/\(-4<=u/\u<=4)/\(-4<=v/\v<=4):=by
    match zs,lz,hz with
    | [x,y],_,hz =>
     obtain⟨u,rfl,hu⟩:=hz x (by simp)
     obtain⟨v,rfl,hv⟩:=hz y (by simp)
     exact⟨u,v,rfl,hu,hv⟩
   have g3:=Same.new hpl (.lst [.int u,.int v])
   have hl3:=g3 _ _ (g2 _ _ hl1)
   have npl:pl≠l:=fun z=>by rw[z,g2 _ _ hl1] at hpl;cases hpl
   have e20:(20:Int)+(0+(i:Nat))=((20+i:Nat):Int):=by omega
   have e30:(30:Int)+(0+(i:Nat))=((30+i:Nat):Int):=by omega
   have gA:=g1.trans (g2.trans g3)
   have hp3:Paired (zfj (upd H2 pl (.lst [.int u,.int v]))) ps ws:=xX (fun _ _ z=>(g2.trans g3) _ _ z) hp1
   have zkI:(upd H2 pl (.lst [.int u,.int v])) pl=some (.lst [.int u,.int v]):=zf
   have plH:H pl=none:=g1.free (g2.free hpl)
   generalize upd H2 pl (.lst [.int u,.int v])=H3 at *
   refine⟨_,rfl,_,rfl,20,_,rfl,rfl,c,20+i,7,congrArg (fun z=>[V.int c,V.int z,V.int 7]) e20,by omega,by decide,by decide,fun r r0 r1=>⟨rfl,_,rfl,yr (fun _=>?_) (fun _=>?_)⟩⟩
   ·refine⟨1000000,rfl,by show 2<=sizeLine;decide,fun t0 ht0=>?_⟩
    have g4:=Same.new ht0 (.lst [.int 1000000,.int (-1000000)])
    refine⟨_,rfl,_,rfl,30,_,rfl,rfl,c,30+i,2,congrArg (fun z=>[V.int c,V.int z,V.int 2]) e30,by omega,by decide,by decide,fun r' s0 s1=>?_⟩
    obtain⟨X,hX,hat⟩:∃X:Int,(X=1000000\/X=-1000000)/\atI ([.int 1000000,.int (-1000000)]:List V) r'=some (.int X):=by
     have:r'=0\/r'=1:=by omega
     rcases this with z | z<;>subst z
     ·exact⟨1000000,.inl rfl,rfl⟩
     ·exact⟨-1000000,.inr rfl,rfl⟩
    refine⟨t0,_,r',_,rfl,rfl,zT.of zf,hat,?_⟩
    obtain⟨u',v',jj,hjj,zg9,hok⟩:∃(u' v':Int) (jj:Nat),ixN 2 ((0+(i:Nat))%2)=some jj/\([.int u,.int v]:List V).set jj (.int X)=[.int u',.int v']/\zhs (u',v'):=by
     have:(0+(i:Nat):Int)%2=0\/(0+(i:Nat):Int)%2=1:=by omega
     rcases this with z | z<;>rw[z]
     ·exact⟨X,v,0,rfl,rfl,by constructor<;>constructor<;>dsimp only<;>omega⟩
     ·exact⟨u,X,1,rfl,rfl,by constructor<;>constructor<;>dsimp only<;>omega⟩
    refine⟨_,rfl,_,rfl,_,2,rfl,rfl,(show(0:Int)<2 by decide),pl,_,_,jj,rfl,rfl,g4 _ _ zkI,hjj,?_⟩
    rw[zg9]
    have hl5:upd (upd H3 t0 (.lst [.int 1000000,.int (-1000000)])) pl (.lst [.int u',.int v']) l=some (.lst (ps.map V.ref)):=by rw[zy (Ne.symm npl)];exact g4 _ _ hl3
    have zkJ:upd (upd H3 t0 (.lst [.int 1000000,.int (-1000000)])) pl (.lst [.int u',.int v']) pl=some (.lst [.int u',.int v']):=zf
    have hp5:Paired (zfj (upd (upd H3 t0 (.lst [.int 1000000,.int (-1000000)])) pl (.lst [.int u',.int v']))) ps ws:=xX (fun x y z=>by
     show upd _ pl _ x=_
     rw[zy (Yx (g4 _ _ z) (g4 _ _ zkI) (by intro z;cases z))]
     exact g4 _ _ z) hp3
    have gB:=(gA.trans g4).over plH (.lst [.int u',.int v'])
    generalize upd (upd H3 t0 (.lst [.int 1000000,.int (-1000000)])) pl (.lst [.int u',.int v'])=H5 at *
    refine⟨_,rfl,.inl ⟨rfl,_,zT.of hl5⟩,_,rfl,pl,_,_,_,rfl,rfl,zT.of zkJ,rfl,_,rfl,pl,_,_,_,rfl,rfl,zT.of zkJ,rfl,by show 2<=sizeLine;decide,fun t ht=>?_⟩
    have g9:=Same.new ht (.tup [.int u',.int v'])
    have lps:=yp hp1
    refine⟨l,_,_,rfl,rfl,g9 _ _ hl5,by rw[zuc];exact zQ (by omega),?_⟩
    have nt:t≠l:=fun z=>by rw[z,hl5] at ht;cases ht
    refine⟨ps++[t],ws++[(u',v')],_,_,(gB.trans g9).over hl _,by rw[zf,zuq];rfl,ZR (xX (fun x y z=>?_) hp5) (.cons ?_ .nil),by rw[zuk,lw];rfl,fun s hs=>?_,rfl⟩
    ·show upd (upd _ t _) l _ x=_
     rw[zy (Yx (g9 _ _ z) (g9 _ _ hl5) (by intro z;cases z))]
     exact g9 _ _ z
    ·show upd (upd _ t _) l _ t=_
     rw[zy nt,zf]
    ·rcases List.mem_append.mp hs with z | z
     ·exact ok s z
     ·have e:s=(u',v'):=by simpa using z
      rw[e]
      exact hok
   ·have hok:zhs (u,v):=by constructor<;>constructor<;>dsimp only<;>omega
    refine⟨_,rfl,.inl ⟨rfl,_,zT.of hl3⟩,_,rfl,pl,_,_,_,rfl,rfl,zT.of zkI,rfl,_,rfl,pl,_,_,_,rfl,rfl,zT.of zkI,rfl,by show 2<=sizeLine;decide,fun t ht=>?_⟩
    have g9:=Same.new ht (.tup [.int u,.int v])
    have lps:=yp hp1
    refine⟨l,_,_,rfl,rfl,g9 _ _ hl3,by rw[zuc];exact zQ (by omega),?_⟩
    have nt:t≠l:=fun z=>by rw[z,hl3] at ht;cases ht
    refine⟨ps++[t],ws++[(u,v)],_,_,(gA.trans g9).over hl _,by rw[zf,zuq];rfl,ZR (xX (fun x y z=>?_) hp3) (.cons ?_ .nil),by rw[zuk,lw];rfl,fun s hs=>?_,rfl⟩
    ·show upd (upd _ t _) l _ x=_
     rw[zy (Yx (g9 _ _ z) (g9 _ _ hl3) (by intro z;cases z))]
     exact g9 _ _ z
    ·show upd (upd _ t _) l _ t=_
     rw[zy nt,zf]
    ·rcases List.mem_append.mp hs with z | z
     ·exact ok s z
     ·have e:s=(u,v):=by simpa using z
      rw[e]
      exact hok
 ·rintro σ H1 ⟨ps,ws,f3,f4,g1,hl1,hp1,lw,ok,rfl⟩
  exact⟨_,rfl,q l H1 ps ws g1 hl hl1 hp1 lw ok⟩
theorem Jj (T:Txt P w K mg a)(yM:zA P w K mg base zX k a.yH a.yI ["self", "number"] (ZV a.zm))(yj:zA P w K mg base zX k a.yU a.yV ["self", "number", "value"] (Xb a.zm)):zA P w K mg base zX (k+1) a.Zt a.Zu ["book", "number", "value", "weights", "known"] (RM a.zm K):=by
 refine T.X7.ok uZ (fun vs H Q E h=>?_) (fun cdv A outer s H vs Q E hr h=>?_)
 ·obtain⟨b,l,d,os,rs,F,j,i,lo,hi,v,ps,ws,kvs,x,rfl,_⟩:=h
  rfl
 obtain⟨b,l,d,os,rs,F,j,i,lo,hi,v,ps,ws,kvs,x,rfl,hB,ex,hw,hd,hv,q⟩:=h
 refine⟨_,(zj (zN (i:=5) uZ.nd rfl (Or.inl rfl) (z9 (pv 0) T.zO T.xP yM hr T.xO .nil zF (za (pv 1) zc)))
   (zj (zN (i:=6) uZ.nd rfl (Or.inl rfl) (z9 (pv 0) T.zO T.xG yj hr T.xu .nil zF (za (pv 1) (za (pv 2) zc))))
   (zj (zN (i:=7) uZ.nd rfl (Or.inl rfl) (QX zgg (pv 3) (Ss (zM xW (pv 5) zq)) (Ss (z9 (pv 0) T.zO T.xP yM hr T.xO .nil zF (za (pv 6) zc)))))
   (zu (zH (zM xW (zM xW (yg vh (yg yS (pv 3) (pv 5) (fun _ _=>rfl)) (pv 2) (fun _ _=>rfl)) (zJ (J0 rfl) rfl T.zgK ze9 (za (tL (ZK:=zp uh) (js:=[]) rfl (by show YL (zp uh) _ "entry" [];exact⟨rfl,by decide +kernel,by decide +kernel,rfl,by decide +kernel,by decide +kernel,by decide +kernel⟩) rfl (xr (pv 7)) (by show ∀j∈([]:List Nat),j<8;decide) (fun cl C s₂ H₂ fp=>(zJ (zck (K:=K) rfl rfl (hu9 hr)) rfl T.zer zcU (za (pv 0) zc)))) zc))) (Jt (RD hr) (pv 4) (pv 6) (fun _ _=>rfl)))))))),?_⟩
 have L:=xU a.zm
 have BK:=L.bk hB
 have o8:=(L.ord hB).le
 have hj:=(zuf.mp ex).1
 obtain⟨jl,jh,l1,l2,_⟩:=zE.Jz BK ex hj
 have lj:zE.z8 os.length rs j=i:=zE.xY BK ex
 generalize hc:(if v then hi else lo:Nat)=c at hv q
 have cl:c<rs.length/\i<zE.z8 os.length rs c:=by
  rw[<-hc]
  cases v
  ·exact⟨jl,l1⟩
  ·exact⟨jh,l2⟩
 have cn:=zE.WK BK c cl.1
 obtain⟨dx,ml,rl,tl,nd,rv,tbs,zeC,h⟩:=id hB
 refine⟨_,rfl,b,dx,_,rfl,h.hb,rfl,_,rfl,b,os,rs,F,j,rfl,hB,hj,?_⟩
 rw[lj]
 refine⟨_,rfl,b,dx,_,rfl,h.hb,rfl,_,rfl,_,rfl,b,os,rs,F,j,_,v,rfl,hB,ex,?_⟩
 have eg:Xw j (some (i,lo,hi)) v=c:=by rw[<-hc];cases v<;>rfl
 rw[eg]
 refine⟨_,rfl,_,rfl,_,_,rfl,rfl,_,rfl,_,rfl,b,dx,_,rfl,h.hb,rfl,_,rfl,b,os,rs,F,c,rfl,hB,cl.1,_,rfl,l,_,rfl,hw.lst,fun bl hbl=>?_⟩
 have lw:=hw.len
 have lp:=yp hw.at_
 have ec:Qa (ps.map V.ref) (some ((i:Int)+1)) (some ((zE.z8 os.length rs c:Nat):Int))=((ps.drop (i+1)).take (zE.z8 os.length rs c-(i+1))).map V.ref:=by
  have:=zkz (xs:=ps.map V.ref) (m:=i+1) (n:=zE.z8 os.length rs c) (by omega) (by rw[zuc];omega)
  rw[List.map_take,List.map_drop]
  exact this
 rw[ec]
 have g0:=Same.new hbl (.lst (((ps.drop (i+1)).take (zE.z8 os.length rs c-(i+1))).map V.ref))
 have e0:upd H bl (.lst (((ps.drop (i+1)).take (zE.z8 os.length rs c-(i+1))).map V.ref)) bl=some (.lst (((ps.drop (i+1)).take (zE.z8 os.length rs c-(i+1))).map V.ref)):=zf
 generalize upd H bl (.lst (((ps.drop (i+1)).take (zE.z8 os.length rs c-(i+1))).map V.ref))=H0 at g0 e0
 have hw0:=hw.mono g0
 obtain⟨pi,hpi⟩:∃y,ps[i]?=some y:=⟨_,zud (by omega)⟩
 obtain⟨si,hsi,asi⟩:=tY hw0.at_ hpi
 have asi:H0 pi=some (.tup [.int si.1,.int si.2]):=asi
 refine⟨_,rfl,_,rfl,l,_,_,_,rfl,rfl,hw0.lst,Zg (by rw[zue,hpi];rfl),_,rfl,pi,_,_,_,rfl,rfl,wK.of asi,Zg (j:=v.toNat) (v:=.int (zE.w2 si v)) (by cases v<;>rfl),?_⟩
 refine⟨_,rfl,bl,rfl,⟨_,zT.of e0⟩,?_⟩
 generalize he:zE.z8 os.length rs c-(i+1)=e at q e0
 have at':∀{m:Nat} {y:Addr},((ps.drop (i+1)).take e)[m]?=some y->∃sg,((ws.drop (i+1)).take e)[m]?=some sg/\H0 y=some (.tup [.int sg.1,.int sg.2]):=fun {m y} hy=>by
  rw[List.getElem?_take] at hy
  split at hy
  ·rename_i lt
   rw[List.getElem?_drop] at hy
   obtain⟨sg,h1,h2⟩:=tY hw0.at_ hy
   exact⟨sg,by rw[List.getElem?_take,if_pos lt,List.getElem?_drop];exact h1,h2⟩
  ·cases hy
 have lq:((ps.drop (i+1)).take e).length=e:=by rw[zuz,List.length_drop];omega
 have lv:((ws.drop (i+1)).take e).length=e:=by rw[zuz,List.length_drop];omega
 refine Vd (xs:=((ps.drop (i+1)).take e).map V.ref) (fun m ys H'=>Same H0 H'/\ys=((((ws.drop (i+1)).take e).take m).map zE.lw).map V.int) ⟨Same.refl _,rfl⟩ (by rw[zuc,lq];exact zuu (zQ (by omega))) ?_ ?_ ?_
 ·rintro m ys H' hm ⟨g,rfl⟩
  exact⟨zT.of (g _ _ e0),by rw[zuc,zuc,zuz];omega⟩
 ·rintro m y ys H' Q0 hy ⟨g,rfl⟩ hQ
  rw[zue] at hy
  cases hp:((ps.drop (i+1)).take e)[m]? with
  | none=>rw[hp] at hy;cases hy
  | some p =>
   rw[hp] at hy
   cases hy
   obtain⟨sg,h1,h2⟩:=at' hp
   refine⟨_,rfl,p,_,_,rfl,wK.of (g _ _ h2),hQ _ _ ⟨g,?_⟩⟩
   rw[yZ h1,zuq,zuq]
   rfl
 ·rintro ys H' sl ⟨g,rfl⟩ hsl
  rw[zuc,lq,List.take_of_length_le (by omega)]
  have gn:=Same.new hsl (.lst ((((ws.drop (i+1)).take e).map zE.lw).map V.int))
  refine⟨sl,_,rfl,zT.of zf,_,_,rfl,rfl,?_⟩
  have gz:=g0.trans (g.trans gn)
  have dg:Tj (upd H' sl (.lst ((((ws.drop (i+1)).take e).map zE.lw).map V.int))) d (V.int (c:Nat)) (some (.int x)):=by
   have:=Tj.k (k:=iK c) (gz _ _ hd)
   rw[hv] at this
   exact this
  refine⟨_,rfl,_,rfl,d,_,rfl,dg,_,_,rfl,rfl,?_⟩
  have esum:(((ws.drop (i+1)).take e).map zE.lw).sum=zE.fr ws e (i+1):=zfr e (i+1) (by omega)
  have esi:ws.getD i (0,0)=si:=by rw[zup,hsi];rfl
  have z:=q _ gz
  rw[esi,<-esum] at z
  exact z
theorem zf2 (T:Txt P w K mg a)(yj:zA P w K mg base zX k a.yU a.yV ["self", "number", "value"] (Xb a.zm))(zbb:zA P w K mg base zX k a.Zt a.Zu ["book", "number", "value", "weights", "known"] (RM a.zm K)):zA P w K mg base zX (k+1) a.S9 a.Ra ["book", "number", "weights", "known"] (zd7 a.zm K):=by
 refine T.La.ok zaC (fun vs H Q E h=>?_) (fun cdv A outer s H vs Q E hr h=>?_)
 ·obtain⟨b,l,d,os,rs,F,j,ps,ws,kvs,rfl,_⟩:=h
  rfl
 obtain⟨b,l,d,os,rs,F,j,ps,ws,kvs,rfl,hB,hj,hw,hd,hv,q⟩:=h
 refine⟨_,(zj (yN (zL vf (pv 1) zq (zP _)) (zu (zH Vq)) zY)
   (zj (yN (zL vf (pv 1) zq (zP _)) (zu (zH zq)) zY)
   (zj (U9 (i:=4) zaC.nd rfl (Or.inl rfl) (.inl rfl) (ZK:=zp Z0) (js:=[3,1,0]) rfl (by show YL (zp Z0) _ "value" ["known", "number", "book"];exact⟨rfl,by decide +kernel,by decide +kernel,rfl,by decide +kernel,by decide +kernel,by decide +kernel⟩) rfl (JN (vC (za zq (za zq zc)))) (by show ∀j∈([3,1,0]:List Nat),j<5;decide) (fun cl C s₂ H₂ fp pins s' σ' H' Q I h=>wpAny_tests_one ((zL zcA (Jt (RD hr) (pv 1) (z9 (pv 3) T.zO T.xG yj hr T.xu .nil zF (za (pv 2) (za (pv 0) zc))) (fun _ _=>rfl)) Vq (zP _)) pins s' σ' H' Q I h)) (fun cl C s₂ H₂ fp=>(pv 0)) rfl)
   (zu (zH (zca (K:=K) rfl rfl (hu9 hr) rfl T.zer zcU (za (tL (ZK:=zp Z0) (js:=[0,1,2,3]) rfl (by show YL (zp Z0) _ "value" ["book", "number", "weights", "known"];exact⟨rfl,by decide +kernel,by decide +kernel,rfl,by decide +kernel,by decide +kernel,by decide +kernel⟩) rfl (xr (pv 4)) (by show ∀j∈([0,1,2,3]:List Nat),j<5;decide) (fun cl C s₂ H₂ fp=>(zB zbb hr rfl T.T7 T.X7.2 T.T6 .nil zF (za (pv 1) (za (pv 2) (za (pv 0) (za (pv 3) (za (pv 4) zc)))))))) zc) Vq)))))),?_⟩
 have L:=xU a.zm
 have BK:=L.bk hB
 refine⟨_,rfl,rfl,_,rfl,?_⟩
 refine yr (fun z=>?_) (fun z=>?_)
 ·have e:j=0:=by have:=of_decide_eq_true z;injection this with z;omega
  subst e
  have y:=q _ (Same.refl _)
  rw[zE.zkx BK] at y
  exact y
 have j0:j≠0:=fun e=>z (decide_eq_true (by rw[e];rfl))
 refine⟨_,rfl,rfl,_,rfl,?_⟩
 refine yr (fun z=>?_) (fun z=>?_)
 ·have e:j=1:=by have:=of_decide_eq_true z;injection this with z;omega
  subst e
  have y:=q _ (Same.refl _)
  rw[zE.zmc BK] at y
  exact y
 have j1:j≠1:=fun e=>z (decide_eq_true (by rw[e];rfl))
 obtain⟨i,lo,hi,ex,_⟩:=BK.rm j (by omega) hj
 obtain⟨v1,v2⟩:=hv i lo hi ex
 have en:=zE.zky (ws:=ws) BK ex hj
 rw[en] at q
 clear en
 obtain⟨dx,ml,rl,tl,nd,rv,ts0,zeC,h⟩:=id hB
 have has:∀{H':Hp} (v:Bool),Same H H'->Tj H' d (V.int ((if v then hi else lo:Nat):Nat)) (some (ldV (zE.ld ws os.length rs (if v then hi else lo)))):=fun {H'} v g=>by
  have:=Tj.k (k:=iK ((if v then hi else lo:Nat):Int)) (g _ _ hd)
  rw[show vm kvs (iK ((if v then hi else lo:Nat):Int))=some (ldV (zE.ld ws os.length rs (if v then hi else lo))) by cases v;exact v1;exact v2] at this
  exact this
 refine⟨by show 2<=sizeLine;decide,fun tp htp=>?_⟩
 have g0:=Same.new htp (.tup [.int 0,.int 1])
 have e0:upd H tp (.tup [.int 0,.int 1]) tp=some (.tup [.int 0,.int 1]):=zf
 generalize upd H tp (.tup [.int 0,.int 1])=H0 at g0 e0
 refine⟨tp,rfl,⟨_,wK.of e0⟩,?_⟩
 have isn:∀o:Option Int,(!decide (ldV o=V.non))=o.isSome:=fun o=>by
  cases o with
  | none=>rw[decide_eq_true (show ldV none=V.non from rfl)];rfl
  | some x=>rw[decide_eq_false (fun z=>by cases z)];rfl
 refine zku (xs:=[.int 0,.int 1]) (fun x=>match x with | .int 0=>(zE.ld ws os.length rs lo).isSome | _=>(zE.ld ws os.length rs hi).isSome) (fun H' g=>wK.of (g _ _ e0)) (by show 2<=sizeLine;decide) (fun x H' Q h=>⟨_,rfl,h⟩) (fun m x H' Q0 hx g hQ=>?_) (fun H1 wl g1 hwl=>?_)
 ·have hvx:∃v:Bool,x=V.int ((v.toNat:Nat):Int):=by
   match m,hx with
   | 0,hx=>cases hx;exact⟨false,rfl⟩
   | 1,hx=>cases hx;exact⟨true,rfl⟩
  obtain⟨v,rfl⟩:=hvx
  have gz:=g0.trans g
  have hB':=L.same hB gz
  obtain⟨dx',ml',rl',tl',nd',rv',ts',kvs',h'⟩:=id hB'
  have eg:Xw j (some (i,lo,hi)) v=(if v then hi else lo):=by cases v<;>rfl
  refine⟨_,rfl,_,rfl,b,dx',_,rfl,h'.hb,rfl,_,rfl,_,rfl,b,os,rs,F,j,_,v,rfl,hB',ex,?_⟩
  rw[eg]
  refine⟨d,_,rfl,has v gz,rfl,_,rfl,?_⟩
  rw[isn]
  have y:=hQ _ g
  cases v
  ·exact y
  ·exact y
 have ew:([V.int 0,V.int 1].filter fun x=>match x with | .int 0=>(zE.ld ws os.length rs lo).isSome | _=>(zE.ld ws os.length rs hi).isSome)=([false,true].filter fun v=>(zE.ld ws os.length rs (if v then hi else lo)).isSome).map fun v=>V.int ((v.toNat:Nat):Int):=by
  cases e1:(zE.ld ws os.length rs lo).isSome<;>cases e2:(zE.ld ws os.length rs hi).isSome<;>simp[List.filter,e1,e2]
 rw[ew]
 generalize hW:([false,true].filter fun v=>(zE.ld ws os.length rs (if v then hi else lo)).isSome)=W
 have g2:=g1.trans (Same.new hwl (.lst (W.map fun v=>V.int ((v.toNat:Nat):Int))))
 have e2:upd H1 wl (.lst (W.map fun v=>V.int ((v.toNat:Nat):Int))) wl=some (.lst (W.map fun v=>V.int ((v.toNat:Nat):Int))):=zf
 generalize upd H1 wl (.lst (W.map fun v=>V.int ((v.toNat:Nat):Int)))=H2 at g2 e2
 have lW:W.length<=2:=by rw[<-hW];exact zuK _ _
 have g02:=g0.trans g2
 refine⟨_,rfl,wl,rfl,⟨_,zT.of e2⟩,?_⟩
 refine Vd (xs:=W.map fun v=>V.int ((v.toNat:Nat):Int)) (fun m ys H'=>Same H2 H'/\ys=((W.take m).map fun v=>V.int ((zE.cnd ws os.length rs i (if v then hi else lo) v (zE.ld ws os.length rs (if v then hi else lo))).getD 0))) ⟨Same.refl _,rfl⟩ (by rw[zuc];exact zuu (zQ (by omega))) ?_ ?_ ?_
 ·rintro m ys H' hm ⟨g,rfl⟩
  exact⟨zT.of (g _ _ e2),by rw[zuc,zuz];omega⟩
 ·rintro m y ys H' Q0 hy ⟨g,rfl⟩ hQ
  rw[zue] at hy
  cases hp:W[m]? with
  | none=>rw[hp] at hy;cases hy
  | some v =>
   rw[hp] at hy
   cases hy
   have gz:=g02.trans g
   have hs:(zE.ld ws os.length rs (if v then hi else lo)).isSome=true:=by
    have:=zuh hp
    rw[<-hW] at this
    exact(List.mem_filter.mp this).2
   obtain⟨x,ex'⟩:=Option.isSome_iff_exists.mp hs
   have hx:vm kvs (iK ((if v then hi else lo:Nat):Int))=some (.int x):=by
    have:vm kvs (iK ((if v then hi else lo:Nat):Int))=some (ldV (zE.ld ws os.length rs (if v then hi else lo))):=by
     cases v
     ·exact v1
     ·exact v2
    rw[this,ex']
    rfl
   refine⟨_,rfl,_,rfl,_,rfl,_,rfl,_,rfl,b,l,d,os,rs,F,j,i,lo,hi,v,ps,ws,kvs,x,rfl,L.same hB gz,ex,hw.mono gz,gz _ _ hd,hx,fun H3 g3=>hQ _ _ ⟨g.trans g3,?_⟩⟩
   rw[yZ hp,zuq,zuA,List.map_nil,ex']
   rfl
 ·rintro ys H' pl ⟨g,rfl⟩ hpl
  rw[zuc,zuE]
  have gn:=Same.new hpl (.lst (W.map fun v=>V.int ((zE.cnd ws os.length rs i (if v then hi else lo) v (zE.ld ws os.length rs (if v then hi else lo))).getD 0)))
  have gz:=g02.trans (g.trans gn)
  refine⟨pl,_,_,rfl,rfl,zT.of zf,?_⟩
  have y:=q _ gz
  rw[<-hW] at y ⊢
  clear hW q
  have fl:∀o0 o1:Option Int,zE.ld ws os.length rs lo=o0->zE.ld ws os.length rs hi=o1->([false,true].filter fun v=>(zE.ld ws os.length rs (if v then hi else lo)).isSome)=(if o0.isSome then [false] else [])++(if o1.isSome then [true] else []):=fun o0 o1 e0 e1=>by
   subst e0 e1
   cases h0:(zE.ld ws os.length rs lo).isSome<;>cases h1:(zE.ld ws os.length rs hi).isSome<;>simp[List.filter,h0,h1]
  have lt2:∀(Hq:Hp) (zs:List Int) (i j:Nat) (x y:V),(zs.map V.int)[i]?=some x->(zs.map V.int)[j]?=some y->LtD K Hq 8 x y (decide (zs.getD i 0<zs.getD j 0)):=fun Hq zs i j x y hx hy=>by
   have e:∀{i:Nat} {x:V},(zs.map V.int)[i]?=some x->x=.int (zs.getD i 0):=fun {i x} h=>by
    rw[zue] at h
    cases hz:zs[i]? with
    | none=>rw[hz] at h;cases h
    | some z=>rw[hz] at h;cases h;rw[zup,hz];rfl
   rw[e hx,e hy]
   exact LtD.int
  cases o0:zE.ld ws os.length rs lo with
  | none =>
   cases o1:zE.ld ws os.length rs hi with
   | none =>
    rw[fl _ _ o0 o1] at y ⊢
    rw[o0,o1] at y
    exact .inl ⟨rfl,y⟩
   | some x1 =>
    rw[fl _ _ o0 o1] at y ⊢
    rw[o0,o1] at y
    have em:(((if (none:Option Int).isSome=true then [false] else [])++if (some x1).isSome=true then [true] else []).map fun v:Bool=>V.int ((zE.cnd ws os.length rs i (if v then hi else lo) v (zE.ld ws os.length rs (if v then hi else lo))).getD 0))=[zE.w2 (ws.getD i (0,0)) true+zE.fr ws (zE.z8 os.length rs hi-(i+1)) (i+1)+x1].map V.int:=by
     show [V.int ((zE.cnd ws os.length rs i hi true (zE.ld ws os.length rs hi)).getD 0)]=_
     rw[o1]
     rfl
    rw[em] at y ⊢
    refine .inr ⟨_,Nat.zero_lt_one,lt2 _ _,fun v hv=>?_⟩
    cases hv
    exact y
  | some x0 =>
   cases o1:zE.ld ws os.length rs hi with
   | none =>
    rw[fl _ _ o0 o1] at y ⊢
    rw[o0,o1] at y
    have em:(((if (some x0).isSome=true then [false] else [])++if (none:Option Int).isSome=true then [true] else []).map fun v:Bool=>V.int ((zE.cnd ws os.length rs i (if v then hi else lo) v (zE.ld ws os.length rs (if v then hi else lo))).getD 0))=[zE.w2 (ws.getD i (0,0)) false+zE.fr ws (zE.z8 os.length rs lo-(i+1)) (i+1)+x0].map V.int:=by
     show [V.int ((zE.cnd ws os.length rs i lo false (zE.ld ws os.length rs lo)).getD 0)]=_
     rw[o0]
     rfl
    rw[em] at y ⊢
    refine .inr ⟨_,Nat.zero_lt_one,lt2 _ _,fun v hv=>?_⟩
    cases hv
    exact y
   | some x1 =>
    rw[fl _ _ o0 o1] at y ⊢
    rw[o0,o1] at y
    have em:(((if (some x0).isSome=true then [false] else [])++if (some x1).isSome=true then [true] else []).map fun v:Bool=>V.int ((zE.cnd ws os.length rs i (if v then hi else lo) v (zE.ld ws os.length rs (if v then hi else lo))).getD 0))=[zE.w2 (ws.getD i (0,0)) false+zE.fr ws (zE.z8 os.length rs lo-(i+1)) (i+1)+x0,zE.w2 (ws.getD i (0,0)) true+zE.fr ws (zE.z8 os.length rs hi-(i+1)) (i+1)+x1].map V.int:=by
     show [V.int ((zE.cnd ws os.length rs i lo false (zE.ld ws os.length rs lo)).getD 0),V.int ((zE.cnd ws os.length rs i hi true (zE.ld ws os.length rs hi)).getD 0)]=_
     rw[o0,o1]
     rfl
    rw[em] at y ⊢
    have y:Q (.int (if zE.w2 (ws.getD i (0,0)) true+zE.fr ws (zE.z8 os.length rs hi-(i+1)) (i+1)+x1<zE.w2 (ws.getD i (0,0)) false+zE.fr ws (zE.z8 os.length rs lo-(i+1)) (i+1)+x0 then zE.w2 (ws.getD i (0,0)) true+zE.fr ws (zE.z8 os.length rs hi-(i+1)) (i+1)+x1 else zE.w2 (ws.getD i (0,0)) false+zE.fr ws (zE.z8 os.length rs lo-(i+1)) (i+1)+x0)) _:=y
    generalize zE.w2 (ws.getD i (0,0)) false+zE.fr ws (zE.z8 os.length rs lo-(i+1)) (i+1)+x0=aa at y ⊢
    generalize zE.w2 (ws.getD i (0,0)) true+zE.fr ws (zE.z8 os.length rs hi-(i+1)) (i+1)+x1=bb at y ⊢
    refine .inr ⟨_,Nat.zero_lt_succ _,lt2 _ [aa,bb],fun v hv=>?_⟩
    have e:argBest (fun i j=>decide ([aa,bb].getD i 0<[aa,bb].getD j 0)) 1=if bb<aa then 1 else 0:=by
     show(if decide (bb<aa)=true then 1 else 0)=_
     by_cases c:bb<aa
     ·rw[decide_eq_true c,if_pos rfl,if_pos c]
     ·rw[decide_eq_false c,if_neg zug,if_neg c]
    rw[show([aa,bb].map V.int).length-1=1 from rfl,e] at hv
    by_cases c:bb<aa
    ·rw[if_pos c] at hv y;cases hv;exact y
    ·rw[if_neg c] at hv y;cases hv;exact y
theorem zhZ (T:Txt P w K mg a)(zW:zA P w K mg base zX k a.zU a.zV ["self", "number"] (vD a.zm))(ZG:zA P w K mg base zX k a.xK a.xM ["book", "weights"] (Yh a.zm K))(ZF:zA P w K mg base zX k a.vM a.vN ["self", "number"] (Tt a.zm))(zh0:zA P w K mg base zX k a.S9 a.Ra ["book", "number", "weights", "known"] (zd7 a.zm K)):zA P w K mg base zX (k+1) a.JB a.JC ["book", "room", "weights"] (zd8 a.zm K):=by
 refine T.JD.ok zaB (fun vs H Q E h=>?_) (fun cdv A outer s H vs Q E hr h=>?_)
 ·obtain⟨b,wl,os,rs,F,k0,ps,ws,rfl,_⟩:=h
  rfl
 obtain⟨b,wl,os,rs,F,k0,ps,ws,rfl,UJ,hk,hfew,hw0,q⟩:=h
 refine⟨_,(zj (yq (z9 (pv 0) T.zO T.yD zW hr T.yC .nil zF (za (pv 1) zc)))
   (zj (yq (zB ZG hr rfl T.ZC T.ud.2 T.Zz .nil zF (za (pv 0) (za (pv 2) zc))))
   (zj (zN (i:=3) zaB.nd rfl (Or.inl rfl) zad)
   (zj (uO PassesOwn.never rfl (xr (z9 (pv 0) T.zO T.Xk ZF hr T.Xj .nil zF (za (pv 1) zc))) (yR (i:=4) zaB.nd rfl (Or.inl rfl)) (zu (Ju (RD hr) (pv 3) (pv 4) (zB zh0 hr rfl T.zcp T.La.2 T.zco .nil zF (za (pv 0) (za (pv 4) (za (pv 2) (za (pv 3) zc))))) rfl)))
   (zu (zH (Py rfl rfl T.zaQ (pv 3)))))))),?_⟩
 have L:=xU a.zm
 have BK:=L.bk UJ
 obtain⟨dx,ml,rl,tl,nd,rv,ts0,zeC,h⟩:=id UJ
 refine⟨_,rfl,b,dx,_,rfl,h.hb,rfl,_,rfl,b,os,rs,F,k0,rfl,UJ,hk,?_⟩
 refine⟨_,rfl,_,rfl,b,wl,os,rs,F,ps,ws,rfl,UJ,hw0,fun HH gH=>?_⟩
 have hB:=L.same UJ gH
 have hw:=hw0.mono gH
 refine fun d hd=>?_
 have g0:=Same.new hd (.dK [])
 have UJ:=L.same hB g0
 obtain⟨dx,fs,QG,hm⟩:=L.ins UJ
 refine⟨_,rfl,b,dx,fs,rfl,QG,hm _ (by decide +kernel),_,rfl,b,os,rs,F,k0,rfl,UJ,hk,hfew,fun bl H1 ms g1 fbl hbl isb=>?_⟩
 have nat:∀x∈ms,∃j:Nat,x=j/\zE.Reach rs k0 j:=fun x hx=>(isb.mem x).mp hx
 have lms:=isb.len BK hk
 have o8:=(L.ord hB).le
 have p8:2^os.length<=256:=zux (zuH (n:=2) (by decide) o8) (by decide)
 have g01:=g0.trans g1
 have hd1:=g1 _ _ (show upd HH d (.dK []) d=some (.dK []) from zf)
 have hdn:d≠bl:=zx zf fbl
 refine⟨bl,rfl,⟨_,zT.of hbl⟩,?_⟩
 refine Yy (xs:=ms.map V.int) (fun i σ H'=>∃f3:Option V,Same HH H'/\H' bl=some (.lst (ms.map V.int))/\H' d=some (.dK ((ms.take i).map (kvI fun m=>ldV (zE.ld ws os.length rs m.toNat))))/\σ=[some (.ref b),some (.int (k0:Nat)),some (.ref wl),some (.ref d),f3]) ⟨_,g01,hbl,hd1,rfl⟩ (fun i σ H' _ ⟨_,g,hb',_⟩=>zT.of hb') ?_ ?_
 ·rintro i x σ H' hx ⟨f3,g,hb',hd',rfl⟩
  rw[zue] at hx
  cases hm':ms[i]? with
  | none=>rw[hm'] at hx;cases hx
  | some m =>
   rw[hm'] at hx
   cases hx
   obtain⟨j,rfl,rj⟩:=nat m (zuh hm')
   have hj:=rj.lt BK hk
   have hin:∀g:Nat,g<j->zE.Reach rs k0 g->vm ((ms.take i).map (kvI fun m=>ldV (zE.ld ws os.length rs m.toNat))) (iK g)=some (ldV (zE.ld ws os.length rs g)):=fun g hg rg=>by
    have mem:(g:Int)∈ms:=(isb.mem _).mpr ⟨g,rfl,rg⟩
    obtain⟨t,ht,et⟩:=zuS mem
    have hit:t<i:=by
     rcases Nat.lt_or_ge t i with z | z
     ·exact z
     ·exfalso
      obtain⟨hi',ei'⟩:=zuf.mp hm'
      rcases Nat.lt_or_ge i t with y | y
      ·have:=List.pairwise_iff_getElem.mp isb.up i t hi' ht y
       rw[et,ei'] at this
       omega
      ·have:t=i:=by omega
       subst this
       rw[et] at ei'
       omega
    refine zat (c:=fun m=>ldV (zE.ld ws os.length rs m.toNat)) ?_
    rw[<-et]
    refine zuh (i:=t) ?_
    rw[List.getElem?_take,if_pos hit,zud ht]
   refine⟨_,rfl,_,rfl,_,rfl,_,rfl,b,wl,d,os,rs,F,j,ps,ws,_,rfl,L.same hB g,hj,hw.mono g,hd',(fun i' lo hi ex=>?_),fun H2 g2=>?_⟩
   ·have st:=rj.step ex
    have z2:2<=j:=by
     rcases Nat.lt_or_ge j 2 with z | z
     ·exfalso
      rcases (by omega:j=0\/j=1) with z | z<;>subst z
      ·rw[BK.h0] at ex;cases ex
      ·rw[BK.h1] at ex;cases ex
     ·exact z
    obtain⟨i2,lo2,hi2,e2,_,a1,a2,_⟩:=BK.rm j z2 hj
    rw[ex] at e2
    cases e2
    exact⟨hin lo a1 st.1,hin hi a2 st.2⟩
   have hd2:=g2 _ _ hd'
   refine⟨_,rfl,_,rfl,d,_,rfl,zdQ.k (k:=iK j) hd2 ?_,?_⟩
   ·rw[zuc,zuz];exact zQ (by omega)
   refine⟨_,(g.trans g2).over hd _,?_,?_,rfl⟩
   ·rw[zy (Ne.symm hdn)];exact g2 _ _ hb'
   ·rw[zf,yZ hm',zuq]
    have hnone:vm ((ms.take i).map (kvI fun m=>ldV (zE.ld ws os.length rs m.toNat))) (iK (j:Int))=none:=by
     refine zas fun hy=>?_
     obtain⟨t,ht,et⟩:=zuS hy
     rw[zuz] at ht
     rw[List.getElem_take] at et
     obtain⟨hi',ei'⟩:=zuf.mp hm'
     have:=List.pairwise_iff_getElem.mp isb.up t i (by omega) hi' (by omega)
     rw[et,ei'] at this
     omega
    rw[zac _ hnone]
    rfl
 ·rintro σ H' ⟨f3,g,hb',hd',rfl⟩
  rw[zuc,zuE] at hd'
  refine⟨_,rfl,d,_,rfl,hd',fun l ts H2 g2 fl hp hl=>?_⟩
  refine q l ts ms H2 (gH.trans (g.trans g2)) (gH.free (g.free fl)) isb ?_ hl
  refine zcY (by have:=yp hp;rw[zuc] at this;exact this) fun j x y h1 h2=>?_
  obtain⟨kv',h3,h4,h5⟩:=tY hp h1
  rw[zue,h2] at h3
  cases h3
  exact⟨gH.free (g.free h4),h5⟩
theorem ok_law (T:Txt P w K mg a)
  (xT:zA P w K mg base zX (k+1) a.yt a.yu ["script", "k"] (Jx K))
  (zbG:zA P w K mg base zX (k+1) a.Yo a.Yp ["cell", "limit"] zgo)
  (Ke:zA P w K mg base zX (k+1) a.uH a.uI ["script", "at", "many", "order"] (KC K))
  (Jk:zA P w K mg base zX (k+1) a.tG a.tH ["cell", "size"] Pu)
  (R7:zA P w K mg base zX (k+1) a.Yq a.Yr ["book", "room"] (zgH a.zm))
  (zeK:zA P w K mg base zX k a.YJ a.Wo ["self", "order"] (zag (yc a.zm) K a.zm))
  (zdo:zA P w K mg base zX (k+1) a.Xg a.Xh ["self", "sentence"] (Ky (yc a.zm)))
  (ZF:zA P w K mg base zX (k+1) a.vM a.vN ["self", "number"] (Tt a.zm))
  (UL:zA P w K mg base zX (k+1) a.tD a.tE ["self", "number", "row"] (Kz a.zm K))
  (zjm:zA P w K mg base zX (k+1) a.PX a.P0 ["book", "room"] (zcm a.zm))
  (zgM:zA P w K mg base zX (k+1) a.JB a.JC ["book", "room", "weights"] (zd8 a.zm K))
  (zbc:zA P w K mg base zX (k+1) a.V1 a.V2 ["book", "room"] (zb8 a.zm))
  (zf3:zA P w K mg base zX (k+1) a.V9 a.Ua ["book", "room", "weights"] (Qi a.zm K))
  (zjn:zA P w K mg base zX (k+1) a.PL a.PN ["book", "room", "number"] (zgE a.zm)) :
  zA P w K mg base zX (k+2) a.a_law a.d_law ["script"] (ziN K):=by
 refine T.F_law.ok sc_law (fun vs H Q E h=>?_) (fun cdv A outer s H vs Q E hr h=>?_)
 ·obtain⟨a,ns,rfl,_⟩:=h
  rfl
 obtain⟨sc,ns,rfl,hS,h63,q⟩:=h
 have L:=xU a.zm
 refine zph ?_
 refine zlY (fun σ H=>∃(ol bk wl:Addr) (os:List Str) (rs:List zE.Rm) (F:wO) (k1:Nat) (ps:List Addr) (ws:List zE.Wg),yc a.zm H bk os rs F/\k1<rs.length/\zft rs k1/\uE K H wl ps ws os.length/\σ=[some (.ref sc),some (.ref ol),some (.ref bk),some (.int (k1:Nat)),some (.ref wl),none,none,none,none,none,none,none,none,none,none]) (fun t z=>(zj (zN (i:=1) sc_law.nd rfl (Or.inl rfl) (zB zbG hr rfl T.R4 T.W2.2 T.R3 .nil zF (za (zB xT hr rfl T.xR T.yJ.2 T.xQ .nil zF (za (pv 0) (za zq zc))) (za (yg yS (vg (za zq (za zq zc))) (Sq zgX rfl T.zla zlN (za (uy vf (zM Ze (zB xT hr rfl T.xR T.yJ.2 T.xQ .nil zF (za (pv 0) (za zq zc))) zq) zq (zP _)) zc)) (fun _ _=>rfl)) zc))))
   (zj (zN (i:=2) sc_law.nd rfl (Or.inr rfl) (zjF T.Rh zeK hr rfl T.zi6 T.K1 .nil zF (za (pv 1) zc)))
   (zj (zN (i:=3) sc_law.nd rfl (Or.inr rfl) (z9 (pv 2) T.zO T.Nj zdo hr T.Ni .nil zF (za (zB Ke hr rfl T.Vn T.Yc.2 T.Vm .nil zF (za (pv 0) (za zq (za (zM xW zq (zM Ze (zB xT hr rfl T.xR T.yJ.2 T.xQ .nil zF (za (pv 0) (za zq zc))) zq)) (za (pv 1) zc))))) zc)))
   (zj (zN (i:=4) sc_law.nd rfl (Or.inl rfl) (zB Jk hr rfl T.UG T.Y5.2 T.Uz .nil zF (za (zB xT hr rfl T.xR T.yJ.2 T.xQ .nil zF (za (pv 0) (za zq zc))) (za (zJ zG rfl T.wu yO (za (pv 1) zc)) zc))))
   z))))) ?_ ?_
 ·rintro u hu σ H ⟨rfl,rfl⟩
  refine⟨_,rfl,sc,ns,0,rfl,hS,by show 2<=sizeLine;decide,fun l5 hl5=>?_⟩
  have g5:=Same.new hl5 (.lst [.int 5,.int 8])
  refine⟨_,rfl,sc,ns,40,rfl,g5.seq hS,_,_,rfl,rfl,(show(0:Int)<8 by decide),rfl,.inr ⟨_,rfl,l5,_,_,.int ((if (decide (V.int (uT ns 40%8)=V.int 1)) then 8 else 5:Nat):Int),rfl,rfl,zT.of zf,?_,uT ns 0,(if (decide (V.int (uT ns 40%8)=V.int 1)) then 8 else 5),rfl,?_,?_,fun ol H0 os g1' zjo ho o8'=>?_⟩⟩
  ·cases (decide (V.int (uT ns 40%8)=V.int 1))<;>rfl
  ·cases (decide (V.int (uT ns 40%8)=V.int 1))<;>decide
  ·cases (decide (V.int (uT ns 40%8)=V.int 1))<;>decide
  have g0:=g5.trans g1'
  clear g1' o8' g5
  have o8:=ho.le
  have hS0:=g0.seq hS
  have m0:∀i,0<=uT ns i%7:=fun i=>zuT _ (by decide)
  have m1:∀i,uT ns i%7<7:=fun i=>zuQ _ (by decide)
  have em:∀i,(1:Int)+uT ns i%7=(((1+uT ns i%7).toNat:Nat):Int):=fun i=>by have:=m0 i;omega
  have zmn:∀{s:Sn} {m:Nat},s.depth<=m->m<=7->s.count<=200:=fun {s m} h1 h2=>by
   have h3:=Sn.zd0 s
   have h4:2^s.depth<=2^7:=zuH (by decide) (by omega)
   have h5:2^7=128:=rfl
   omega
  refine⟨_,rfl,fun bk dx hbk hdx hne=>⟨bk,dx,ol,os,rfl,zf,Ne.symm hne,?_,ho,fun H3 F0 keep hB hF=>⟨rfl,?_⟩⟩⟩
  ·refine zT.of ?_
   rw[zy (zx zjo hbk),zy (zx zjo hdx)]
   exact zjo
  have g13:Same H0 H3:=fun x o e=>keep x o (by rw[zy (zx e hbk),zy (zx e hdx)];exact e) (zx e hbk)
  have hF1:∀x,F0 x->H0 x=none:=fun x hx=>by
   rcases hF x hx with z | z | z
   ·rw[z];exact hbk
   ·rw[z];exact hdx
   ·by_cases e1:x=bk
    ·rw[e1] at z;rw[zf] at z;cases z
    ·by_cases e2:x=dx
     ·rw[e2,zy hne,zf] at z;cases z
     ·rw[zy e1,zy e2] at z;exact z
  have L0:Led (yc a.zm) H0 bk os 2 H3 [none,none] F0:=⟨g13,hF1,hB,zus _⟩
  clear keep hF hF1
  have hS3:=g13.seq hS0
  have zqj:=g13 _ _ zjo
  obtain⟨dx0,fs,QG,hm⟩:=L.ins L0.bk
  refine⟨_,rfl,bk,dx0,fs,rfl,QG,hm _ (by decide +kernel),_,rfl,_,rfl,sc,ns,1,rfl,hS3,?_⟩
  refine⟨uT ns 1,7,rfl,rfl,(show(0:Int)<7 by decide),1,_,rfl,rfl,_,rfl,sc,ol,ns,2,(1+uT ns 1%7).toNat,os,?_,hS3,zT.of zqj,ho.pos,o8,by have:=m0 1;omega,by have:=m1 1;omega,by decide,fun p1 H4 s1 g4 is1 in1 d1 ⟨P4,w4,u4⟩=>?_⟩
  ·show [V.ref sc,V.int 2,V.int (1+uT ns 1%7),V.ref ol]=_
   rw[em 1];rfl
  have L4:=L0.new L g4
  have y1:=m1 1
  refine⟨bk,p1,os,[none,none],F0,s1,rfl,L4.bk,by decide,is1,in1,zmn d1 (by omega),by omega,fun k1 rs1 F1 H5 aw tu hB1 nf gr hk hy hbd=>?_⟩
  have L5:=L4.grow aw hB1 nf hbd
  have hS5:=L5.same.seq hS0
  have zqk:=L5.same _ _ zjo
  refine⟨_,rfl,sc,ns,10,rfl,hS5,_,rfl,ol,_,rfl,.inl (zT.of zqk),uT ns 10,os.length,?_,o8,fun wl H6 ps ws g6 fwl hwl pw lw ow=>?_⟩
  ·rw[zuc];rfl
  exact hu _ _ ⟨ol,bk,wl,os,rs1,F1,k1,ps,ws,L.same L5.bk g6,hk,zkA (L.bk hB1) ⟨hk,hy⟩ (by omega) u4,⟨zT.of hwl,pw,lw,ow⟩,rfl⟩
 refine zlY (fun σ H=>∃(ol bk wl tl bl:Addr) (os:List Str) (rs:List zE.Rm) (F:wO) (k1:Nat) (ps ts:List Addr) (ws:List zE.Wg) (ms:List Int),yc a.zm H bk os rs F/\k1<rs.length/\zft rs k1/\uE K H wl ps ws os.length/\zE.uD rs k1 ms/\H tl=some (.lst (ts.map V.ref))/\Paired (zma os.length rs H) ts ms/\σ=[some (.ref sc),some (.ref ol),some (.ref bk),some (.int (k1:Nat)),some (.ref wl),some (.ref tl),some (.ref bl),none,none,none,none,none,none,none,none]) (fun t z=>(zj (zN (i:=5) sc_law.nd rfl (Or.inl rfl) (zB zjm hr rfl T.zek T.zaF.2 T.zej .nil zF (za (pv 2) (za (pv 3) zc))))
   (zj (zN (i:=6) sc_law.nd rfl (Or.inl rfl) (z9 (pv 2) T.zO T.Xk ZF hr T.Xj .nil zF (za (pv 3) zc)))
   (zj (yN (zL (ziQ rfl (hu8 hr)) (tL (ZK:=zp S_law) (js:=[]) rfl (by show YL (zp S_law) _ "entry" [];exact⟨rfl,by decide +kernel,by decide +kernel,rfl,by decide +kernel,by decide +kernel,by decide +kernel⟩) rfl (xr (pv 5)) (by show ∀j∈([]:List Nat),j<15;decide) (fun cl C s₂ H₂ fp=>(yg (Ph (K:=K) rfl) (pv 0) zq (fun _ _=>rfl)))) (pv 6) (zP _)) (zu (zH Ut)) zY)
   (zj (yN (zL (ziQ rfl (hu8 hr)) (tL (ZK:=zp S_law) (js:=[]) rfl (by show YL (zp S_law) _ "entry" [];exact⟨rfl,by decide +kernel,by decide +kernel,rfl,by decide +kernel,by decide +kernel,by decide +kernel⟩) rfl (xr (zB zgM hr rfl T.zc4 T.JD.2 T.zc3 .nil zF (za (pv 2) (za (pv 3) (za (pv 4) zc))))) (by show ∀j∈([]:List Nat),j<15;decide) (fun cl C s₂ H₂ fp=>(yg (Ph (K:=K) rfl) (pv 0) zq (fun _ _=>rfl)))) (pv 6) (zP _)) (zu (zH Ut)) zY)
   z))))) ?_ ?_
 ·rintro u hu σ H ⟨ol,bk,wl,os,rs,F,k1,ps,ws,hB,hk,hfew,hw,rfl⟩
  have BK:=L.bk hB
  have o8:=(L.ord hB).le
  have p8:2^os.length<=256:=zux (zuH (n:=2) (by decide) o8) (by decide)
  refine⟨_,rfl,_,rfl,bk,os,rs,F,k1,rfl,hB,hk,hfew,fun tl ts ms H1 g1 ftl isb pt htl=>?_⟩
  have lms:=isb.len BK hk
  have el:=yp pt
  have hB1:=L.same hB g1
  obtain⟨dx,fs,QG,hm⟩:=L.ins hB1
  refine⟨_,rfl,bk,dx,fs,rfl,QG,hm _ (by decide +kernel),_,rfl,bk,os,rs,F,k1,rfl,hB1,hk,hfew,fun bl H2 ms2 g2 fbl hbl zmo=>?_⟩
  rw[zmo.eq isb] at hbl
  have g12:=g1.trans g2
  have zmp:=g2 _ _ htl
  have pt2:Paired (zma os.length rs H2) ts ms:=xX (fun _ _ z=>g2 _ _ z.2) pt
  refine⟨_,rfl,tl,rfl,⟨_,zT.of zmp⟩,?_⟩
  refine Vd (xs:=ts.map V.ref) (fun m ys H'=>Same H2 H'/\ys=(ms.take m).map V.int) ⟨Same.refl _,rfl⟩ (by rw[zuc];exact zuu (zQ (by omega))) ?_ ?_ ?_
  ·rintro m ys H' hm ⟨g,rfl⟩
   exact⟨zT.of (g _ _ zmp),by rw[zuc,zuz];omega⟩
  ·rintro m x ys H' Q0 hx ⟨g,rfl⟩ hQ
   rw[zue] at hx
   cases hpt:ts[m]? with
   | none=>rw[hpt] at hx;cases hx
   | some t =>
    rw[hpt] at hx
    cases hx
    obtain⟨y,hy,ht⟩:=tY pt2 hpt
    refine⟨_,rfl,t,_,0,_,rfl,rfl,wK.of (g _ _ ht),rfl,hQ _ _ ⟨g,?_⟩⟩
    rw[yZ hy,zuq]
    rfl
  rintro ys H3 el1 ⟨g3,rfl⟩ hel1
  rw[zuc,el,zuE]
  have g4:=g3.trans (Same.new hel1 (.lst (ms.map V.int)))
  refine⟨_,rfl,true,fun y=>absurd y.1 zug,zch (zT.of zf) (zT.of (g4 _ _ hbl)),_,rfl,Vu ?_⟩
  generalize upd H3 el1 (.lst (ms.map V.int))=H4 at g4
  have g14:=g12.trans g4
  refine⟨_,rfl,_,rfl,_,rfl,bk,wl,os,rs,F,k1,ps,ws,rfl,L.same hB g14,hk,hfew,hw.mono g14,fun ll us ms3 H5 g5 fll zqm pl hll=>?_⟩
  have e3:=zqm.eq isb
  subst e3
  have el2:=yp pl
  refine⟨ll,rfl,⟨_,zT.of hll⟩,?_⟩
  refine Vd (xs:=us.map V.ref) (fun m ys H'=>Same H5 H'/\ys=(ms3.take m).map V.int) ⟨Same.refl _,rfl⟩ (by rw[zuc];exact zuu (zQ (by omega))) ?_ ?_ ?_
  ·rintro m ys H' hm ⟨g,rfl⟩
   exact⟨zT.of (g _ _ hll),by rw[zuc,zuz];omega⟩
  ·rintro m x ys H' Q0 hx ⟨g,rfl⟩ hQ
   rw[zue] at hx
   cases hpt:us[m]? with
   | none=>rw[hpt] at hx;cases hx
   | some t =>
    rw[hpt] at hx
    cases hx
    obtain⟨y,hy,_,ht⟩:=tY pl hpt
    refine⟨_,rfl,t,_,0,_,rfl,rfl,wK.of (g _ _ ht),rfl,hQ _ _ ⟨g,?_⟩⟩
    rw[yZ hy,zuq]
    rfl
  rintro ys H6 el3 ⟨g6,rfl⟩ zqn
  rw[zuc,el2,zuE]
  have g7:=(g4.trans g5).trans (g6.trans (Same.new zqn (.lst (ms3.map V.int))))
  refine⟨_,rfl,true,fun y=>absurd y.1 zug,zch (zT.of zf) (zT.of (g7 _ _ hbl)),_,rfl,Vu ?_⟩
  have gz:=g12.trans g7
  exact hu _ _ ⟨ol,bk,wl,tl,bl,os,rs,F,k1,ps,ts,ws,ms3,L.same hB gz,hk,hfew,hw.mono gz,isb,g7 _ _ zmp,xX (fun _ _ z=>g7 _ _ z) pt2,rfl⟩
 refine zlY (fun σ H=>∃(ol bk wl tl bl:Addr) (os:List Str) (rs:List zE.Rm) (F:wO) (k1:Nat) (ps:List Addr) (ws:List zE.Wg) (ms:List Int) (f9 f10 f11:Option V),yc a.zm H bk os rs F/\k1<rs.length/\zft rs k1/\uE K H wl ps ws os.length/\zE.uD rs k1 ms/\σ=[some (.ref sc),some (.ref ol),some (.ref bk),some (.int (k1:Nat)),some (.ref wl),some (.ref tl),some (.ref bl),none,none,f9,f10,f11,none,none,none]) (fun t z=>(zj (uO PassesOwn.never rfl (xr (pv 5)) (JM rfl (uR (yR (i:=9) sc_law.nd rfl (Or.inl rfl)) (uR (yR (i:=10) sc_law.nd rfl (Or.inl rfl)) QM))) (zj (uO PassesOwn.never rfl (ZM rfl T.Yv (za (zB R7 hr rfl T.W4 T.Yu.2 T.W3 .nil zF (za (pv 2) (za (pv 9) zc))) zc)) (yR (i:=11) sc_law.nd rfl (Or.inl rfl)) (zu (zN (i:=10) sc_law.nd rfl (Or.inl rfl) (zM xW (pv 10) (pv 10)))))
   (zu (yN (zL Kf (zB zbc hr rfl T.Qu T.Ud.2 T.Qt .nil zF (za (pv 2) (za (pv 9) zc))) (pv 10) (zP _)) (zu (zH Ut)) zY))))
   z)) ?_ ?_
 ·rintro u hu σ H ⟨ol,bk,wl,tl,bl,os,rs,F,k1,ps,ts,ws,ms,hB,hk,hfew,hw,isb,htl,pt,rfl⟩
  have BK:=L.bk hB
  have o8:=(L.ord hB).le
  have lts:=yp pt
  refine⟨_,rfl,tl,rfl,⟨_,zT.of htl⟩,?_⟩
  refine Yy (xs:=ts.map V.ref) (fun i σ H'=>∃f9 f10 f11:Option V,Same H H'/\σ=[some (.ref sc),some (.ref ol),some (.ref bk),some (.int (k1:Nat)),some (.ref wl),some (.ref tl),some (.ref bl),none,none,f9,f10,f11,none,none,none])
   ⟨_,_,_,Same.refl _,rfl⟩ (fun i σ H' _ ⟨_,_,_,g,_⟩=>zT.of (g _ _ htl)) ?_ ?_
  ·rintro i x σ H' hx ⟨f9,f10,f11,g,rfl⟩
   rw[zue] at hx
   cases hpt:ts[i]? with
   | none=>rw[hpt] at hx;cases hx
   | some t =>
    rw[hpt] at hx
    cases hx
    obtain⟨m,hm,ht⟩:=tY pt hpt
    obtain⟨j,rfl,rj⟩:=(isb.mem m).mp (zuh hm)
    have hj:=rj.lt BK hk
    have ht':H' t=some (.tup [.int (j:Nat),.int (zE.cn os.length rs j:Nat)]):=g _ _ ht
    refine⟨t,_,rfl,wK.of ht',rfl,_,_,rfl,_,_,rfl,rfl,?_⟩
    refine⟨_,rfl,_,rfl,bk,os,rs,F,j,rfl,L.same hB g,hj,fun H1 g1=>?_⟩
    have le:=zE.WK BK j hj
    refine⟨_,rfl,by omega,by omega,?_⟩
    rw[zuO]
    refine ZP (fun e σ H'=>∃f11:Option V,Same H H'/\σ=[some (.ref sc),some (.ref ol),some (.ref bk),some (.int (k1:Nat)),some (.ref wl),some (.ref tl),some (.ref bl),none,none,some (.int (j:Nat)),some (.int ((2^e*zE.cn os.length rs j:Nat):Int)),f11,none,none,none])
     ⟨_,g.trans g1,by rw[Nat.pow_zero,Nat.one_mul];rfl⟩ ?_ ?_
    ·rintro e σ H2 he ⟨f11,g2,rfl⟩
     refine⟨_,rfl,_,rfl,_,_,rfl,rfl,some (.int ((0:Int)+(e:Nat))),g2,?_⟩
     rw[Nat.pow_succ,Nat.mul_comm (2^e) 2,Nat.mul_assoc,Nat.two_mul]
     rfl
    ·rintro σ H2 ⟨f11,g2,rfl⟩
     refine⟨_,rfl,_,rfl,bk,os,rs,F,j,rfl,L.same hB g2,hj,fun H3 g3=>?_⟩
     refine⟨_,rfl,rfl,_,rfl,?_⟩
     refine zaq (by rw[zmd BK hj]) ?_
     exact⟨_,_,_,g2.trans g3,rfl⟩
  ·rintro σ H' ⟨f9,f10,f11,g,rfl⟩
   exact hu _ _ ⟨ol,bk,wl,tl,bl,os,rs,F,k1,ps,ws,ms,f9,f10,f11,L.same hB g,hk,hfew,hw.mono g,isb,rfl⟩
 refine⟨_,(zj (uO PassesOwn.never rfl (xr (zB zgM hr rfl T.zc4 T.JD.2 T.zc3 .nil zF (za (pv 2) (za (pv 3) (za (pv 4) zc))))) (JM rfl (uR (yR (i:=9) sc_law.nd rfl (Or.inl rfl)) (uR (yR (i:=12) sc_law.nd rfl (Or.inl rfl)) QM))) (zj (zN (i:=13) sc_law.nd rfl (Or.inl rfl) (zB zf3 hr rfl T.zaP T.QB.2 T.zaO .nil zF (za (pv 2) (za (pv 9) (za (pv 4) zc)))))
   (zj (zN (i:=14) sc_law.nd rfl (Or.inl rfl) (zJ (J0 rfl) rfl T.zgK ze9 (za (tL (ZK:=zp S_law) (js:=[]) rfl (by show YL (zp S_law) _ "pair" [];exact⟨rfl,by decide +kernel,by decide +kernel,rfl,by decide +kernel,by decide +kernel,by decide +kernel⟩) rfl (xr (QX zgg (pv 4) zge (Ss (zB R7 hr rfl T.W4 T.Yu.2 T.W3 .nil zF (za (pv 2) (za (pv 9) zc)))))) (by show ∀j∈([]:List Nat),j<15;decide) (fun cl C s₂ H₂ fp=>(zJ (zck (K:=K) rfl rfl (hu9 hr)) rfl T.zer zcU (za (pv 0) zc)))) zc)))
   (zj (yN (PW.pt (QL (zL Kf (uy zie (pv 12) Vq (zP _)) (uy zie (pv 13) Vq (zP _)) (zP _)) (U4 (PW.pt (zeO (zL zcA (pv 12) Vq (zP _)) (zcx (zL Kf (yg vh (pv 13) zq (fun _ _=>rfl)) (zM xW (pv 12) (pv 14)) (zP _)))))))) (zu (zH Ut)) zY)
   (zu (yN (PW.pt (zeO (zL zcA (pv 13) Vq (zP _)) (zcx (zL Kf (z9 (pv 2) T.zO T.Y4 UL hr T.Y0 .nil zF (za (pv 9) (za (yg vh (pv 13) zq (fun _ _=>rfl)) zc))) zq (zP _))))) (zu (zH Ut)) zY))))))
   (zj (zN (i:=7) sc_law.nd rfl (Or.inl rfl) (zB zbc hr rfl T.Qu T.Ud.2 T.Qt .nil zF (za (pv 2) (za (pv 3) zc))))
   (zj (U9 (tt:=Qd) (i:=8) sc_law.nd rfl (Or.inl rfl) (.inl rfl) (ZK:=zp S_law) (js:=[2,3]) rfl (by show YL (zp S_law) _ "number" ["book", "room"];exact⟨rfl,by decide +kernel,by decide +kernel,rfl,by decide +kernel,by decide +kernel,by decide +kernel⟩) rfl (ZM rfl T.Yv (za (pv 7) zc)) (by show ∀j∈([2,3]:List Nat),j<15;decide) (fun cl C s₂ H₂ fp pins s' σ' H' Q I h=>wpAny_pure ⟨H',I,h⟩) (fun cl C s₂ H₂ fp=>(zB zjn hr rfl T.zei T.zaE.2 T.zeh .nil zF (za (pv 1) (za (pv 2) (za (pv 0) zc))))) rfl)
   (zu (zH (JK (zJ (YB rfl) rfl T.Nq Tc (za (tL (ZK:=zp S_law) (js:=[3,2]) rfl (by show YL (zp S_law) _ "row" ["room", "book"];exact⟨rfl,by decide +kernel,by decide +kernel,rfl,by decide +kernel,by decide +kernel,by decide +kernel⟩) rfl (xr (pv 8)) (by show ∀j∈([3,2]:List Nat),j<15;decide) (fun cl C s₂ H₂ fp=>(uy vf (z9 (pv 2) T.zO T.Y4 UL hr T.Y0 .nil zF (za (pv 1) (za (pv 0) zc))) zq (zP _)))) zc)) (zcy (uy vf (zJ zG rfl T.wu yO (za (pv 8) zc)) (pv 7) (zP _))))))))),?_⟩
 rintro σ H ⟨ol,bk,wl,tl,bl,os,rs,F,k1,ps,ws,ms,f9,f10,f11,hB,hk,hfew,hw,isb,rfl⟩
 have BK:=L.bk hB
 have o8:=(L.ord hB).le
 have lw:=hw.len
 have lp:=yp hw.at_
 refine⟨_,rfl,_,rfl,_,rfl,bk,wl,os,rs,F,k1,ps,ws,rfl,hB,hk,hfew,hw,fun ll us ms2 H1 g1 fll zmo pl hll=>?_⟩
 refine⟨ll,rfl,⟨_,zT.of hll⟩,?_⟩
 refine Yy (xs:=us.map V.ref) (fun i σ H'=>∃f9 f12 f13 f14:Option V,Same H1 H'/\σ=[some (.ref sc),some (.ref ol),some (.ref bk),some (.int (k1:Nat)),some (.ref wl),some (.ref tl),some (.ref bl),none,none,f9,f10,f11,f12,f13,f14])
  ⟨_,_,_,_,Same.refl _,rfl⟩ (fun i σ H' _ ⟨_,_,_,_,g,_⟩=>zT.of (g _ _ hll)) ?_ ?_
 ·rintro i x σ H' hx ⟨f9,f12,f13,f14,g,rfl⟩
  rw[zue] at hx
  cases hpt:us[i]? with
  | none=>rw[hpt] at hx;cases hx
  | some t =>
   rw[hpt] at hx
   cases hx
   obtain⟨m,hm,_,ht⟩:=tY pl hpt
   obtain⟨j,rfl,rj⟩:=(zmo.mem m).mp (zuh hm)
   have hj:=rj.lt BK hk
   have le:=zE.WK BK j hj
   have ht':H' t=some (.tup [.int (j:Nat),ldV (zE.ld ws os.length rs j)]):=g _ _ ht
   have gA:=g1.trans g
   refine⟨t,_,rfl,wK.of ht',rfl,_,_,rfl,_,_,rfl,rfl,?_⟩
   refine⟨_,rfl,_,rfl,_,rfl,?_⟩
   dsimp only[zbj,List.append_nil]
   refine zfq (L.same hB gA) hj (hw.mono gA) fun fv H2 g2 hfv=>?_
   have gB:=gA.trans g2
   have hw2:=hw.mono gB
   refine⟨_,rfl,_,rfl,_,rfl,bk,os,rs,F,j,rfl,L.same hB gB,hj,fun H3 g3=>⟨_,rfl,wl,_,rfl,(hw2.mono g3).lst,fun sl hsl=>?_⟩⟩
   rw[ziR,<-List.map_take]
   have g4:=g3.trans (Same.new hsl (.lst ((ps.take (zE.z8 os.length rs j)).map V.ref)))
   have e4:upd H3 sl (.lst ((ps.take (zE.z8 os.length rs j)).map V.ref)) sl=some (.lst ((ps.take (zE.z8 os.length rs j)).map V.ref)):=zf
   generalize upd H3 sl (.lst ((ps.take (zE.z8 os.length rs j)).map V.ref))=H4 at g4 e4
   have hw4:=hw2.mono g4
   have lq:(ps.take (zE.z8 os.length rs j)).length=zE.z8 os.length rs j:=by rw[zuz];omega
   have lv:(ws.take (zE.z8 os.length rs j)).length=zE.z8 os.length rs j:=by rw[zuz];omega
   refine⟨sl,rfl,⟨_,zT.of e4⟩,?_⟩
   refine Vd (xs:=(ps.take (zE.z8 os.length rs j)).map V.ref) (fun m ys H'=>Same H4 H'/\ys=(((ws.take (zE.z8 os.length rs j)).take m).map zE.lw).map V.int) ⟨Same.refl _,rfl⟩ (by rw[zuc,lq];exact zuu (zQ (by omega))) ?_ ?_ ?_
   ·rintro m ys H' hm ⟨g,rfl⟩
    exact⟨zT.of (g _ _ e4),by rw[zuc,zuc,zuz];omega⟩
   ·rintro m y ys H' Q0 hy ⟨g,rfl⟩ hQ
    rw[zue] at hy
    cases hp:(ps.take (zE.z8 os.length rs j))[m]? with
    | none=>rw[hp] at hy;cases hy
    | some p =>
     rw[hp] at hy
     cases hy
     rw[List.getElem?_take] at hp
     split at hp
     ·rename_i lt
      obtain⟨sg,h1,h2⟩:=tY hw4.at_ hp
      have h1':(ws.take (zE.z8 os.length rs j))[m]?=some sg:=by rw[List.getElem?_take,if_pos lt];exact h1
      have h2:H4 p=some (.tup [.int sg.1,.int sg.2]):=h2
      refine⟨_,rfl,p,_,_,rfl,wK.of (g _ _ h2),hQ _ _ ⟨g,?_⟩⟩
      rw[yZ h1',zuq,zuq]
      rfl
     ·cases hp
   rintro ys H5 pl5 ⟨g5,rfl⟩ zkJ
   rw[zuc,lq,List.take_of_length_le (by omega)]
   have esum:((ws.take (zE.z8 os.length rs j)).map zE.lw).sum=zE.fr ws (zE.z8 os.length rs j) 0:=zfr (zE.z8 os.length rs j) 0 (by omega)
   have g6:=(g4.trans g5).trans (Same.new zkJ (.lst (((ws.take (zE.z8 os.length rs j)).map zE.lw).map V.int)))
   refine⟨pl5,_,rfl,zT.of zf,?_⟩
   rw[esum]
   generalize upd H5 pl5 (.lst (((ws.take (zE.z8 os.length rs j)).map zE.lw).map V.int))=H6 at g6
   have gz:=g2.trans g6
   have znS:Same H1 H6:=g.trans gz
   rcases hfv with ⟨rfl,ye⟩ | ⟨ql,rl,r,rfl,lt,hq,hr'⟩
   ·have eld:=zhx (ws:=ws) BK hj ye
    rw[eld]
    have n1:decide (ldV (none:Option Int)=V.non)=true:=decide_eq_true rfl
    have n2:decide (V.non=V.non)=true:=decide_eq_true rfl
    refine⟨_,rfl,rfl,_,rfl,rfl,rfl,_,rfl,?_⟩
    refine zaq (by rw[n1,n2]) ?_
    refine⟨_,rfl,rfl,_,rfl,?_⟩
    rw[n1]
    refine Vu ?_
    refine Vu ?_
    refine⟨_,rfl,rfl,_,rfl,?_⟩
    rw[n2]
    refine Vu ?_
    refine Vu ?_
    exact⟨_,_,_,_,znS,rfl⟩
   ·obtain⟨x,eld,ew⟩:=zfp BK hj lw lt
    rw[eld]
    have n1:decide (ldV (some x)=V.non)=false:=decide_eq_false (fun z=>by cases z)
    have n2:decide (V.ref ql=V.non)=false:=decide_eq_false (fun z=>by cases z)
    have hq6:=g6 _ _ hq
    have hr6:=g6 _ _ hr'
    refine⟨_,rfl,rfl,_,rfl,rfl,rfl,_,rfl,?_⟩
    refine zaq (by rw[n1,n2]) ?_
    refine⟨_,rfl,rfl,_,rfl,?_⟩
    rw[n1]
    refine JV ?_
    refine⟨_,rfl,ql,_,0,_,rfl,rfl,wK.of hq6,rfl,_,rfl,_,rfl,_,_,rfl,rfl,rfl,_,rfl,?_⟩
    refine zaq (by rw[ew]) ?_
    refine⟨_,rfl,rfl,_,rfl,?_⟩
    rw[n2]
    refine JV ?_
    have hB6:=L.same hB (gB.trans g6)
    obtain⟨dx,fs,QG,hm⟩:=L.ins hB6
    have mr:r∈zE.wJ os.length rs j:=by
     obtain⟨i',hi',_⟩:=lt
     exact zuh hi'
    have mr:=List.mem_filter.mp mr
    have lr:=zE.YG _ r mr.1
    refine⟨_,rfl,bk,dx,fs,rfl,QG,hm _ (by decide +kernel),_,rfl,_,rfl,ql,_,1,_,rfl,rfl,wK.of hq6,rfl,bk,rl,os,rs,F,j,r,rfl,hB6,hj,zT.of hr6,lr,fun H7 g7=>?_⟩
    have ey:zE.yes rs j (zE.xV r)=true:=by simpa using mr.2
    rw[ey]
    refine⟨rfl,_,rfl,zaq rfl ?_⟩
    exact⟨_,_,_,_,znS.trans g7,rfl⟩
 ·rintro σ H' ⟨f9,f12,f13,f14,g,rfl⟩
  have gA:=g1.trans g
  have p8:2^os.length<=256:=zux (zuH (n:=2) (by decide) o8) (by decide)
  refine⟨_,rfl,_,rfl,bk,os,rs,F,k1,rfl,L.same hB gA,hk,fun H2 g2=>?_⟩
  have gB:=gA.trans g2
  have ly:(zE.wJ os.length rs k1).length<=256:=by
   refine zux (zuK _ _) ?_
   rw[zE.Ms]
   exact p8
  generalize hY:zE.wJ os.length rs k1=Y at ly
  refine⟨_,rfl,_,rfl,by omega,by omega,?_⟩
  rw[zuO]
  refine zkv (n:=Y.length) (fun i ys H'=>Same H2 H'/\∃us:List Addr,ys=us.map V.ref/\Paired (fun u r=>H' u=some (.lst (uP r))) us (Y.take i)) ⟨Same.refl _,[],rfl,.nil⟩ (zuu (zQ (by omega))) ?_ ?_ ?_
  ·rintro i ys H3 hi ⟨_,vs,rfl,pv⟩
   have:=yp pv
   rw[zuz] at this
   rw[zuc]
   omega
  ·rintro i ys H3 Q0 hi ⟨g3,vs,rfl,pv⟩ hQ
   have e0:(0:Int)+(i:Nat)=((i:Nat):Int):=by omega
   obtain⟨r,hr'⟩:∃r,Y[i]?=some r:=⟨_,zud hi⟩
   refine⟨_,rfl,_,rfl,_,rfl,bk,os,rs,F,k1,i,r,by rw[e0];rfl,L.same hB (gB.trans g3),hk,by rw[hY];exact hr',fun l H4 g4 fl hl=>hQ _ _ ⟨g3.trans g4,vs++[l],by rw[zuq];rfl,?_⟩⟩
   rw[yZ hr']
   exact ZR (xX (fun _ _ z=>g4 _ _ z) pv) (.cons hl .nil)
  ·rintro ys H3 rl ⟨g3,vs,rfl,pv⟩ hrl
   rw[zuE] at pv
   have lv:=yp pv
   have gn:=Same.new hrl (.lst (vs.map V.ref))
   have e4:upd H3 rl (.lst (vs.map V.ref)) rl=some (.lst (vs.map V.ref)):=zf
   have pv4:=xX (fun _ _ z=>gn _ _ z) pv
   have gC:=gB.trans (g3.trans gn)
   generalize upd H3 rl (.lst (vs.map V.ref))=H4 at gn e4 pv4 gC
   refine⟨_,rfl,rl,rfl,⟨_,zT.of e4⟩,?_⟩
   refine zhv (zT.of e4) (by rw[zuc];exact zuu (zQ (by omega))) (fun i x H5 Q0 hx g5 hQ=>?_) (fun H5 al g5 hal=>?_)
   ·rw[zue] at hx
    cases hv:vs[i]? with
    | none=>rw[hv] at hx;cases hx
    | some v =>
     rw[hv] at hx
     cases hx
     obtain⟨r,hr',hvr⟩:=tY pv4 hv
     have mr:=zuh hr'
     rw[<-hY] at mr
     have mr:=List.mem_filter.mp mr
     have lr:=zE.YG _ r mr.1
     have hB5:=L.same hB (gC.trans g5)
     obtain⟨dx,fs,QG,hm⟩:=L.ins hB5
     refine⟨_,rfl,bk,dx,fs,rfl,QG,hm _ (by decide +kernel),_,rfl,_,rfl,bk,v,os,rs,F,k1,r,rfl,hB5,hk,zT.of (g5 _ _ hvr),lr,fun H6 g6=>?_⟩
     have ey:zE.yes rs k1 (zE.xV r)=true:=by simpa using mr.2
     rw[ey]
     exact⟨rfl,hQ _ g6⟩
   ·have gn5:=Same.new hal (.lst ((List.replicate (vs.map V.ref).length true).map V.bl))
    refine⟨al,_,rfl,zT.of zf,_,rfl,?_⟩
    rw[zhu]
    refine JV ?_
    refine⟨_,rfl,rl,_,rfl,.inl (zT.of (gn5 _ _ (g5 _ _ e4))),_,rfl,rfl,?_⟩
    rw[zuc,lv,decide_eq_true rfl]
    exact q _
theorem zkK (T:Txt P w K mg a)(base:Heap):zA P w K mg base zX 60 a.a_law a.d_law ["script"] (ziN K):=by
 have cell:zA P w K mg base zX 1 a.yt a.yu ["script", "k"] (Pb K):=zfS (k:=0) T
 have draw:zA P w K mg base zX 1 a.wY a.wZ ["cell", "k", "bound"] Ma:=zkD (k:=0) T
 have order:=zjj (k:=1) T draw
 have sentence:=zdg (k:=1) T cell draw
 have zgN:zA P w K mg base zX 2 a.ur a.uw ["marks"] Xl:=zeu (k:=1) T
 have zbd:zA P w K mg base zX 1 a.wU a.wV ["place", "marks"] tM:=zdf (k:=0) T
 have flipped:=zfR (k:=1) T zbd
 have zjp:zA P w K mg base zX 1 a.Z1 a.Z2 ["letter"] Va:=zfU (k:=0) T
 have zkL:=zew (k:=1) T zjp
 have lettersOf:zA P w K mg base zX 1 a.vG a.vH ["sentence"] YC:=zbx (k:=0) T
 have partsOf:zA P w K mg base zX 1 a.vI a.vJ ["sentence"] ZS:=zex (k:=0) T
 have zbe:=Jg (k:=1) T partsOf
 have shaped:=zdh (k:=1) T zjp lettersOf partsOf
 have znT:=za5 (k:=2) T shaped zbe
 have zh1:=LR (k:=2) T zkL
 have zkM:=RB (k:=3) T znT
 have zjq:=zdi (k:=2) T zbe
 have zh2:=zbz (k:=3) T zjq (lettersOf.mono (by decide))
 have zjr:zA P w K mg base zX 1 a.wA a.wB ["order", "letter"] (Vx K):=Nt (k:=0) T
 have zh3:=QC (k:=4) T zh2 (zjr.mono (by decide))
 have two:zA P w K mg base zX 2 a.wG a.wH ["word", "one", "other", "every"] zdN:=Jh (k:=1) T
 have table:=Ja (k:=2) T zgN (zbd.mono (by decide)) flipped (partsOf.mono (by decide)) two 24
 have zmq:=zfW (k:=2) T (zbd.mono (by decide)) flipped
 have hangs:=zeA (k:=2) T flipped
 have first:=za6 (k:=3) T hangs
 have zjs:=Wy (k:=4) T first (zmq.mono (by decide)) 9
 have enter:=zbB (k:=26) T (zkM.mono (by decide)) (zh3.mono (by decide)) table (zjs.mono (by decide))
 have init:=zdk (k:=3) T zh1 (zgN.mono (by decide))
 have mbr:zA P w K mg base zX 1 a.zU a.zV ["self", "number"] (vD a.zm):=Sh (k:=0) T
 have zmr:zA P w K mg base zX 1 a.wW a.wX ["self"] (tZ (yc a.zm)):=zbD (k:=0) T
 have plc:zA P w K mg base zX 1 a.yH a.yI ["self", "number"] (ZV a.zm):=Kc (k:=0) T
 have goi:zA P w K mg base zX 1 a.yU a.yV ["self", "number", "value"] (Xb a.zm):=zbC (k:=0) T
 have below:=za7 (k:=1) T mbr goi
 have uT:zA P w K mg base zX 1 a.yt a.yu ["script", "k"] (Jx K):=zhW (k:=0) T
 have room:=zdl (k:=1) T mbr plc goi
 have zjt:=zfZ (k:=1) T plc
 have zkN:=zeG (k:=2) T (goi.mono (by decide)) zjt
 have zkO:=zf0 (k:=3) T (below.mono (by decide)) zkN
 have zms:=zdm (k:=2) T (zmr.mono (by decide)) room
 have led:=zeD (k:=1) T plc goi
 have zdp:=zeE (k:=2) T (mbr.mono (by decide)) (zmr.mono (by decide)) led
 have howMany:=zeF (k:=3) T zdp
 have znU:zA P w K mg base zX 1 a.Vf a.Vg ["order", "row"] (Jr K):=zhX (k:=0) T
 have zkP:=za9 (k:=1) T znU
 have zkQ:=Kd (k:=2) T (mbr.mono (by decide)) zkP led
 have rowAt:=zhY (k:=3) T zdp
 have isW:zA P w K mg base zX 1 a.vY a.vZ ["entry"] Zo:=za8 (k:=0) T
 have mW:=QJ (k:=1) T zmr isW
 have wOf:zA P w K mg base zX 1 a.Zc a.Zd ["row", "weights"] (VG K):=zdn (k:=0) T
 have light:=zeI (k:=3) T (mbr.mono (by decide)) (mW.mono (by decide)) zdp (wOf.mono (by decide))
 have lws:=zba (k:=1) T draw
 have zju:=Jj (k:=1) (K:=K) T plc goi
 have lBy:=zf2 (k:=2) (K:=K) T (goi.mono (by decide)) zju
 have zmt:=zhZ (k:=3) (K:=K) T (mbr.mono (by decide)) (mW.mono (by decide)) (below.mono (by decide)) lBy
 exact ok_law (k:=58) T (uT.mono (by decide)) (order.mono (by decide)) (sentence.mono (by decide)) (lws.mono (by decide)) (zms.mono (by decide)) (init.mono (by decide)) (enter.mono (by decide)) (below.mono (by decide)) (zkQ.mono (by decide)) (zkO.mono (by decide)) (zmt.mono (by decide)) (howMany.mono (by decide)) (light.mono (by decide)) (rowAt.mono (by decide))
end
end K85
namespace PySem.W.Fast
def tw860127662064475895:Nat:=0
def tw10808987791562937921:Nat:=0
def tw18198432852341707213:Nat:=0
def tw10234298660824350657:Nat:=0
def tw279492172661434638:Nat:=0
def tw8560938285484973703:Nat:=0
def tw3431236771612734279:Nat:=0
def tw7090927265568063069:Nat:=0
def tw13033876362872891576:Nat:=0
def tw2719667488021531098:Nat:=0
def tw19313452865725079:Nat:=0
def tw7555620402685302858:Nat:=0
def tw2592310931205735571:Nat:=0
def tw6553055648306656660:Nat:=0
def tw3223856178966281939:Nat:=0
def tw15812564486264147893:Nat:=0
def tw13424016588808072313:Nat:=0
def tw10001077948503982641:Nat:=0
def tw13699900972549987414:Nat:=0
def tw14285480475234397232:Nat:=0
def tw18403859695208154991:Nat:=0
def tw17610946739543797476:Nat:=0
def tw2756972538029465056:Nat:=0
def tw14148108513314281977:Nat:=0
def tw10500290038136578409:Nat:=0
def tw13330508450725951512:Nat:=0
def tw13728650450742539334:Nat:=0
def tw8390841287064880568:Nat:=0
def tw15984596613865670968:Nat:=0
def tw8633866306711084699:Nat:=0
def tw15546236337864092026:Nat:=0
def tw7524828738797742558:Nat:=0
def tw15039878340347333951:Nat:=0
def tw15774592354918527558:Nat:=0
def tw3612670770645843781:Nat:=0
def tw16203330555152443760:Nat:=0
def tw3027012332185065871:Nat:=0
def tw9895297535303538366:Nat:=0
def tw1391402354154670223:Nat:=0
def tw10876447488444156497:Nat:=0
def tw12916753943125103588:Nat:=0
def tw7566600430656295880:Nat:=0
def tw9160324549540850795:Nat:=0
def tw17659011384440124226:Nat:=0
def tw1236778795361308457:Nat:=0
def tw5968125125952079343:Nat:=0
def tw9997102786424821347:Nat:=0
def tw2325930293709237712:Nat:=0
def tw7163178500821721600:Nat:=0
def tw2329081867938677061:Nat:=0
def tw2929195732683894633:Nat:=0
def tw11189505226525866915:Nat:=0
def tw1874332956114797810:Nat:=0
def tw12304025743794337949:Nat:=0
def tw239355786230463563:Nat:=0
def tw8638919417047622198:Nat:=0
def tw7077119858266593812:Nat:=0
def tw11969175443358793329:Nat:=0
def tw9944631116397996310:Nat:=0
def tw15970770214768513988:Nat:=0
def tw13283678479275926835:Nat:=0
def tw2756372811340770092:Nat:=0
def tw506478608254712614:Nat:=0
def tw8808526336564158987:Nat:=0
def tw13117847583449836137:Nat:=0
def tw379444100043689195:Nat:=0
def tw16410154679918412361:Nat:=0
def tw2801056061190454017:Nat:=0
def tw1959319062921979469:Nat:=0
def tw6498534146442108297:Nat:=0
def tw4643837262591170260:Nat:=0
def tw6361463834466880761:Nat:=0
def tw1007100273166944000:Nat:=0
def tw18329101733970401779:Nat:=0
def tw16663179436156795708:Nat:=0
def tw16008406972317939305:Nat:=0
def tw16733608554466715018:Nat:=0
def tw18368572334516626516:Nat:=0
def tw11594320754718948262:Nat:=0
def tw17687051002552089461:Nat:=0
def tw3963229584303391031:Nat:=0
def tw8126433805575824312:Nat:=0
def tw18116426115667086279:Nat:=0
def tw2581658834025196218:Nat:=0
def tw18099121666940581068:Nat:=0
def tw18390277439835926608:Nat:=0
def tw4197799902632481070:Nat:=0
def tw15864646953940113866:Nat:=0
def tw17288520244169452077:Nat:=0
def tw14637456805283683336:Nat:=0
def tw6095433072429134502:Nat:=0
def tw3897872982142504021:Nat:=0
def tw666725813473739888:Nat:=0
def tw18326304463122949023:Nat:=0
def tw5749983035528901265:Nat:=0
def tw17701107403899927316:Nat:=0
def tw9269377419689741990:Nat:=0
def tw9461122421167376395:Nat:=0
def tw14265806145910522906:Nat:=0
def tw14198131113502310042:Nat:=0
def tw14365127605457962592:Nat:=0
def tw12740143559116644646:Nat:=0
def tw5530844893408704425:Nat:=0
def tw3769197455595175205:Nat:=0
def tw18435418768493533154:Nat:=0
def tw16071421042124248535:Nat:=0
def tw13068202584146408210:Nat:=0
def tw16497845419522040451:Nat:=0
def tw2643295695670066539:Nat:=0
def tw17100400632756089422:Nat:=0
def tw11430753344459382974:Nat:=0
def tw4017169992289078449:Nat:=0
def tw8493639142663417341:Nat:=0
def tw12986777556444922577:Nat:=0
def tw6836411724921875902:Nat:=0
def tw817205986885813209:Nat:=0
def tw10605667047216508778:Nat:=0
def tw9833678577785209153:Nat:=0
def tw7985324617522687241:Nat:=0
def tw17445250655262898852:Nat:=0
def tw3689730959229126673:Nat:=0
def tw13013706869195637034:Nat:=0
def tw8707327657414735797:Nat:=0
def tw5003581682790306167:Nat:=0
def tw9449084560691135387:Nat:=0
def tw12858414793078023320:Nat:=0
def tw977908264443676180:Nat:=0
def tw2399986070838351729:Nat:=0
def tw5996127907945228689:Nat:=0
def tw1432133759411652454:Nat:=0
def tw16967823032798948178:Nat:=0
def tw5054531001923374433:Nat:=0
def tw13817681974412154599:Nat:=0
def tw8493734951470434453:Nat:=0
def tw1488567072825712025:Nat:=0
def tw5368176642388322734:Nat:=0
def tw13571762976479669679:Nat:=0
def tw9261786319419893459:Nat:=0
def tw2525422139767005567:Nat:=0
def tw6072895805050718304:Nat:=0
def tw4063353362833977926:Nat:=0
def tw4022195570422690986:Nat:=0
def tw11117776909215015718:Nat:=0
def tw12856601679864720178:Nat:=0
def tw12978071696002488624:Nat:=0
def tw15197183320115007212:Nat:=0
def tw15333128395717596210:Nat:=0
def tw16971104216440639834:Nat:=0
def tw16062434364687675195:Nat:=0
def tw3240680378343901965:Nat:=0
def tw18042386233763670468:Nat:=0
def tw12188476517935269953:Nat:=0
def tw3823973007953106706:Nat:=0
def tw16680992504457528777:Nat:=0
def tw1913311662604405265:Nat:=0
def tw4613983156455356108:Nat:=0
def tw2844438472964911990:Nat:=0
def tw1659082214802484237:Nat:=0
def tw10151788556769542843:Nat:=0
def tw7016838856951051065:Nat:=0
def tw4708986225369469447:Nat:=0
def tw11776398274262316084:Nat:=0
def tw16658570162721550092:Nat:=0
def tw16787667740449583751:Nat:=0
def tw16450143148082527214:Nat:=0
def tw12208392233622827522:Nat:=0
def tw15525008339659883200:Nat:=0
def tw12631341243779079619:Nat:=0
def tw11457907261440060084:Nat:=0
def tw9469001996465186104:Nat:=0
def tw15813312072690639395:Nat:=0
def tw5459471963118270529:Nat:=0
def tw16896148869615782185:Nat:=0
def tw763660729984168072:Nat:=0
def tw17089495671197686656:Nat:=0
def tw3565244501963743836:Nat:=0
def tw12147180610176100330:Nat:=0
def tw10608087578205065205:Nat:=0
def tw13247334401786267865:Nat:=0
def tw4825184618030311228:Nat:=0
def tw8151293338595742537:Nat:=0
def tw3164725229911964002:Nat:=0
def tw17548425579240868789:Nat:=0
def tw8940586388055513634:Nat:=0
def tw15713156196489965301:Nat:=0
def tw6543495121298514060:Nat:=0
def tw16889283482894585939:Nat:=0
def tw8850579986095869551:Nat:=0
def tw3905623588150534899:Nat:=0
def tw4444974989230105498:Nat:=0
def tw13341485849232441986:Nat:=0
def tw2122355364856721853:Nat:=0
def tw4808873344961109294:Nat:=0
def tw3970230567876943067:Nat:=0
def tw3930988457278693284:Nat:=0
def tw17293248424747865198:Nat:=0
def tw1246743122365249716:Nat:=0
def tw11488601234494505664:Nat:=0
def tw1836260815211605271:Nat:=0
def tw15815786923492648322:Nat:=0
def tw8506448416201438793:Nat:=0
def tw7615471930142866853:Nat:=0
def tw11515996409580353536:Nat:=0
def tw6398106587985824265:Nat:=0
def tw8522488976210605247:Nat:=0
def tw17923648328972953461:Nat:=0
def tw9202249524774976886:Nat:=0
def tw8352608738478507888:Nat:=0
def tw13934589939857143746:Nat:=0
def tw8337498631379570876:Nat:=0
def tw13718192442456751936:Nat:=0
def tw11821254357096145045:Nat:=0
def tw409313155810164932:Nat:=0
def tw18084445926470398268:Nat:=0
def tw9033693185695447177:Nat:=0
def tw6514679524375475635:Nat:=0
def tw334299304455657373:Nat:=0
def tw16822709288496862617:Nat:=0
def tw16797532512342114567:Nat:=0
def tw9033493995835605993:Nat:=0
def tw10051416352029659777:Nat:=0
def tw15666538303862557954:Nat:=0
def tw11696814285725988677:Nat:=0
def tw6723277357193481035:Nat:=0
def tw9099345758116971912:Nat:=0
def tw12895374711952035870:Nat:=0
def tw18010348784939469684:Nat:=0
def tw9182347000911896859:Nat:=0
def tw7843541437488735748:Nat:=0
def tw5343537786217313336:Nat:=0
def tw15734362963731405579:Nat:=0
def tw1267745112326723232:Nat:=0
def tw8251688869760141428:Nat:=0
def tw12366663774977967508:Nat:=0
def tw15913896457937834457:Nat:=0
def tw9787972451762329157:Nat:=0
def tw18273043270997891807:Nat:=0
def tw1782264887551992479:Nat:=0
def tw1447708901268624751:Nat:=0
def tw13270367913628852563:Nat:=0
def tw3901829060379519028:Nat:=0
def tw16755257483292275887:Nat:=0
def tw12616837140990104434:Nat:=0
def tw8295940231067368858:Nat:=0
def tw4907177751888103476:Nat:=0
def tw14037009542936915170:Nat:=0
def tw16174737538582554452:Nat:=0
def tw3661557574110921348:Nat:=0
def tw8477826568729561211:Nat:=0
def tw5061981598691102536:Nat:=0
def tw7333250263082706466:Nat:=0
def tw6084515861582989784:Nat:=0
def tw16763790773755065941:Nat:=0
def tw5191239880848009609:Nat:=0
def tw7178583501376137945:Nat:=0
def tw14878400980521816855:Nat:=0
def tw11145672656579960813:Nat:=0
def tw3910661336312387175:Nat:=0
def tw10742872571006815408:Nat:=0
def tw2417126179873977849:Nat:=0
def tw13261296103000576769:Nat:=0
def tw2195144547277866902:Nat:=0
def tw18246800810812891999:Nat:=0
def tw11224350057373924681:Nat:=0
def tw17377133907307515763:Nat:=0
def tw14347885087642268881:Nat:=0
def tw5524495751282714349:Nat:=0
def tw6387128368155563644:Nat:=0
def tw11092889940370817197:Nat:=0
def tw10628375743593008119:Nat:=0
def tw4020579028700143901:Nat:=0
def tw14922028331496165446:Nat:=0
def tw17586967422936111924:Nat:=0
def tw331343088914482879:Nat:=0
def tw2261891066468795991:Nat:=0
def tw13797884448739649717:Nat:=0
def tw12757757675441122505:Nat:=0
def tw17849570705888265539:Nat:=0
def tw3090725383084355015:Nat:=0
def tw4564115159832938817:Nat:=0
def tw833751356491268096:Nat:=0
def tw11149891613352899878:Nat:=0
def tw10166690247848888878:Nat:=0
def tw12965256953595178170:Nat:=0
def tw1198054839225713970:Nat:=0
def tw11739142465492920549:Nat:=0
def tw1651268574996586554:Nat:=0
def tw2193125214707314832:Nat:=0
def tw12149993189844549991:Nat:=0
def tw17671661290892337967:Nat:=0
def tw17623110947507472465:Nat:=0
def tw9730652498538544713:Nat:=0
def tw15205896672924258166:Nat:=0
def tw18357975456694224231:Nat:=0
def tw3080985865221268483:Nat:=0
def tw16442243001918755930:Nat:=0
def tw16192513148298858721:Nat:=0
def tw18166309974333783622:Nat:=0
def tw17146776550302710304:Nat:=0
def tw5962634278747248506:Nat:=0
def tw6281442396473544779:Nat:=0
def tw1746090451133523913:Nat:=0
def tw15923027712819577630:Nat:=0
def tw12001578890024815900:Nat:=0
def tw13993303667406007326:Nat:=0
def tw11732922053222177961:Nat:=0
def tw5463464630520111192:Nat:=0
def tw16693732476260933676:Nat:=0
def tw6365137778642453791:Nat:=0
def tw5519478456000659822:Nat:=0
def tw4874104204172362312:Nat:=0
end PySem.W.Fast
open PySem PySem.W PyProof.Rows
set_option maxRecDepth 100000 in
set_option maxHeartbeats 0 in
theorem PySem.Challenge.cw_decidebook_k85_whole_papers_and_counts_holds : PySem.Challenge.rw_decidebook_k85_whole_papers_and_counts.Holds := by
  w_on;o_law;k_head;(case hw => w_witness2)
  k_fill
  refine L2.ziq (l := PySem.Challenge.rw_decidebook_k85_whole_papers_and_counts) (n := 63) (k := 60) (x := "script") (CX := L2.zX) (sp := Y9.ziN) rfl (by decide) rfl (by first | exact⟨rfl, by decide, by decide⟩ | exact⟨rfl, rfl, by decide, by decide⟩) (fun w h Y => PySem.W.kIn_of Y) ?F ?S ?C
  case F =>
    intro w mg fa h KX G hmg
    have T : ∃a, K85.Txt PySem.Challenge.rw_decidebook_k85_whole_papers_and_counts.prog w (L2.KOf KX) mg a := by
      dsimp only[L2.KOf]
      refine' K85.zme KX G ?zm ?a0 ?F0 ?a1 ?F1 ?a2 ?F2 ?a3 ?F3 ?a4 ?F4 ?a5 ?F5 ?a6 ?F6 ?a7 ?F7 ?a8 ?F8 ?a9 ?F9 ?a10 ?F10 ?a11 ?F11 ?a12 ?F12 ?a13 ?F13 ?a14 ?F14 ?a15 ?F15 ?a16 ?F16 ?a17 ?F17 ?a18 ?F18 ?a19 ?F19 ?a20 ?F20 ?a21 ?F21 ?a22 ?F22 ?a23 ?F23 ?a24 ?F24 ?a25 ?F25 ?a26 ?F26 ?a27 ?F27 ?a28 ?F28 ?a29 ?i29 ?F29 ?a30 ?i30 ?F30 ?a31 ?i31 ?F31 ?a32 ?i32 ?F32 ?a33 ?i33 ?F33 ?a34 ?i34 ?F34 ?a35 ?i35 ?F35 ?a36 ?i36 ?F36 ?a37 ?i37 ?F37 ?a38 ?i38 ?F38 ?a39 ?i39 ?F39 ?a40 ?i40 ?F40 ?a41 ?F41 ?a42 ?F42 ?a43 ?F43 ?a44 ?F44 ?a45 ?F45 ?a46 ?F46 ?a47 ?F47 ?a48 ?F48 ?a49 ?F49 ?a50 ?F50 ?a51 ?F51 ?a52 ?F52 ?a53 ?F53 ?a54 ?F54 ?zc6 ?zc7 ?zc8 ?zc9 ?Rh ?zda ?yw ?yG ?wI ?yx ?Ws ?zdb ?zdc ?W5 ?Sd ?uX ?za1 ?za2 ?za3 ?Lb ?Ld ?Le ?Lf ?Lg ?Lh ?Li ?Lj ?Lk ?Ln ?Lp ?Lq ?Lr ?Ls ?Lw ?Lx ?Ly ?Lz ?LC ?LK ?W6 ?zja ?zjb ?Sg ?zjc ?Uq ?zjd ?zfQ ?zje ?zdd ?zjf ?za4 ?zjg ?zjh ?zde ?zji
      (case zm => k_is)
      (case a0 => k_is)
      (case F0 => apply L2.zR;k_is;k_is;k_is)
      (case a1 => k_is)
      (case F1 => apply L2.zR;k_is;k_is;k_is)
      (case a2 => k_is)
      (case F2 => apply L2.zR;k_is;k_is;k_is)
      (case a3 => k_is)
      (case F3 => apply L2.zR;k_is;k_is;k_is)
      (case a4 => k_is)
      (case F4 => apply L2.zR;k_is;k_is;k_is)
      (case a5 => k_is)
      (case F5 => apply L2.zR;k_is;k_is;k_is)
      (case a6 => k_is)
      (case F6 => apply L2.zR;k_is;k_is;k_is)
      (case a7 => k_is)
      (case F7 => apply L2.zR;k_is;k_is;k_is)
      (case a8 => k_is)
      (case F8 => apply L2.zR;k_is;k_is;k_is)
      (case a9 => k_is)
      (case F9 => apply L2.zR;k_is;k_is;k_is)
      (case a10 => k_is)
      (case F10 => apply L2.zR;k_is;k_is;k_is)
      (case a11 => k_is)
      (case F11 => apply L2.zR;k_is;k_is;k_is)
      (case a12 => k_is)
      (case F12 => apply L2.zR;k_is;k_is;k_is)
      (case a13 => k_is)
      (case F13 => apply L2.zR;k_is;k_is;k_is)
      (case a14 => k_is)
      (case F14 => apply L2.zR;k_is;k_is;k_is)
      (case a15 => k_is)
      (case F15 => apply L2.zR;k_is;k_is;k_is)
      (case a16 => k_is)
      (case F16 => apply L2.zR;k_is;k_is;k_is)
      (case a17 => k_is)
      (case F17 => apply L2.zR;k_is;k_is;k_is)
      (case a18 => k_is)
      (case F18 => apply L2.zR;k_is;k_is;k_is)
      (case a19 => k_is)
      (case F19 => apply L2.zR;k_is;k_is;k_is)
      (case a20 => k_is)
      (case F20 => apply L2.zR;k_is;k_is;k_is)
      (case a21 => k_is)
      (case F21 => apply L2.zR;k_is;k_is;k_is)
      (case a22 => k_is)
      (case F22 => apply L2.zR;k_is;k_is;k_is)
      (case a23 => k_is)
      (case F23 => apply L2.zR;k_is;k_is;k_is)
      (case a24 => k_is)
      (case F24 => apply L2.zR;k_is;k_is;k_is)
      (case a25 => k_is)
      (case F25 => apply L2.zR;k_is;k_is;k_is)
      (case a26 => k_is)
      (case F26 => apply L2.zR;k_is;k_is;k_is)
      (case a27 => k_is)
      (case F27 => apply L2.zR;k_is;k_is;k_is)
      (case a28 => k_is)
      (case F28 => apply L2.zR;k_is;k_is;k_is)
      (case a29 => k_is)
      (case i29 => k_is)
      (case F29 => apply L2.zR;k_is;k_is;k_is)
      (case a30 => k_is)
      (case i30 => k_is)
      (case F30 => apply L2.zR;k_is;k_is;k_is)
      (case a31 => k_is)
      (case i31 => k_is)
      (case F31 => apply L2.zR;k_is;k_is;k_is)
      (case a32 => k_is)
      (case i32 => k_is)
      (case F32 => apply L2.zR;k_is;k_is;k_is)
      (case a33 => k_is)
      (case i33 => k_is)
      (case F33 => apply L2.zR;k_is;k_is;k_is)
      (case a34 => k_is)
      (case i34 => k_is)
      (case F34 => apply L2.zR;k_is;k_is;k_is)
      (case a35 => k_is)
      (case i35 => k_is)
      (case F35 => apply L2.zR;k_is;k_is;k_is)
      (case a36 => k_is)
      (case i36 => k_is)
      (case F36 => apply L2.zR;k_is;k_is;k_is)
      (case a37 => k_is)
      (case i37 => k_is)
      (case F37 => apply L2.zR;k_is;k_is;k_is)
      (case a38 => k_is)
      (case i38 => k_is)
      (case F38 => apply L2.zR;k_is;k_is;k_is)
      (case a39 => k_is)
      (case i39 => k_is)
      (case F39 => apply L2.zR;k_is;k_is;k_is)
      (case a40 => k_is)
      (case i40 => k_is)
      (case F40 => apply L2.zR;k_is;k_is;k_is)
      (case a41 => k_is)
      (case F41 => apply L2.zR;k_is;k_is;k_is)
      (case a42 => k_is)
      (case F42 => apply L2.zR;k_is;k_is;k_is)
      (case a43 => k_is)
      (case F43 => apply L2.zR;k_is;k_is;k_is)
      (case a44 => k_is)
      (case F44 => apply L2.zR;k_is;k_is;k_is)
      (case a45 => k_is)
      (case F45 => apply L2.zR;k_is;k_is;k_is)
      (case a46 => k_is)
      (case F46 => apply L2.zR;k_is;k_is;k_is)
      (case a47 => k_is)
      (case F47 => apply L2.zR;k_is;k_is;k_is)
      (case a48 => k_is)
      (case F48 => apply L2.zR;k_is;k_is;k_is)
      (case a49 => k_is)
      (case F49 => apply L2.zR;k_is;k_is;k_is)
      (case a50 => k_is)
      (case F50 => apply L2.zR;k_is;k_is;k_is)
      (case a51 => k_is)
      (case F51 => apply L2.zR;k_is;k_is;k_is)
      (case a52 => k_is)
      (case F52 => apply L2.zR;k_is;k_is;k_is)
      (case a53 => k_is)
      (case F53 => apply L2.zR;k_is;k_is;k_is)
      (case a54 => k_is)
      (case F54 => apply L2.zR;k_is;k_is;k_is)
      (case zc6 => k_is)
      (case zc7 => k_is)
      (case zc8 => k_is)
      (case zc9 => k_is)
      (case Rh => k_is)
      (case zda => k_is)
      (case yw => k_is)
      (case yG => k_is)
      (case wI => k_is)
      (case yx => k_is)
      (case Ws => k_is)
      (case zdb => k_is)
      (case zdc => rfl)
      (case W5 => k_is)
      (case Sd => k_is)
      (case uX => k_is)
      (case za1 => k_is)
      (case za2 => rfl)
      (case za3 => rfl)
      (case Lb => k_is)
      (case Ld => rfl)
      (case Le => k_is)
      (case Lf => rfl)
      (case Lg => k_is)
      (case Lh => rfl)
      (case Li => k_is)
      (case Lj => rfl)
      (case Lk => k_is)
      (case Ln => rfl)
      (case Lp => k_is)
      (case Lq => rfl)
      (case Lr => k_is)
      (case Ls => rfl)
      (case Lw => k_is)
      (case Lx => rfl)
      (case Ly => k_is)
      (case Lz => rfl)
      (case LC => k_is)
      (case LK => rfl)
      (case W6 => k_is)
      (case zja => k_is)
      (case zjb => k_is)
      (case Sg => k_is)
      (case zjc => k_is)
      (case Uq => k_is)
      (case zjd => k_is)
      (case zfQ => k_is)
      (case zje => k_is)
      (case zdd => k_is)
      (case zjf => k_is)
      (case za4 => k_is)
      (case zjg => k_is)
      (case zjh => k_is)
      (case zde => k_is)
      (case zji => k_is)
    obtain⟨a, T⟩ := T
    have e0 := hmg.symm.trans T.m_law
    cases e0
    exact⟨_, T.x_law, fun base kb nb => K85.zkK T base⟩
  case S => exact fun K H a ns hl hO hS => ⟨a, ns, rfl, hS, hl, fun _ => rfl⟩
  case C => exact fun _ _ _ _ h => h
