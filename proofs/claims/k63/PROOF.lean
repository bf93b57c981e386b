import PyProof.Rows.All
import Wide.All
import OpenK.AllK
import Wide.FinOn
import Lean
import PyProof.EqAt
import PyProof.EqKinds
import PyProof.TupleCall
import KE.KRevIter
import OpenK.KOwn
import PyProof.Draws
import PyProof.EnumMake
import PyProof.StrBlockI
import PyProof.StrBlock2
import PyProof.DictValues
import PyProof.DictWalks
import PySem.Challenge.RW_decidebook_k63_covers_told
open PySem.W (Frag nsIn mg_of findIn mg_none_of)
def zts:=@List.length_map
def ztt:=@List.getElem?_eq_getElem
def ztu:=@List.getElem?_map
def ztv:=@List.getElem?_eq_some_iff
def ztw:=@Bool.false_ne_true
def ztx:=@List.mem_of_getElem?
def zty:=@PySem.Heap.get?_push_of_some
def ztz:=@PySem.Heap.lt_size
def ztA:=@List.length_append
def ztB:=@Nat.lt_of_lt_of_le
def ztC:=@List.size_toArray
def ztD:=@List.mem_cons_of_mem
def ztE:=@List.length_cons
def ztF:=@List.getD_eq_getElem?_getD
def ztG:=@List.map_append
def ztH:=@Nat.ne_of_lt
def ztI:=@Nat.le_refl
def ztJ:=@List.mem_append_right
def ztK:=@List.length_range
def ztL:=@Nat.le_of_lt
def ztM:=@List.mem_cons_self
def ztN:=@PySem.Heap.get?_push_size
def ztO:=@Nat.le_trans
def ztP:=@Nat.zero_le
def ztQ:=@List.length_take
def ztR:=@List.map_cons
def ztS:=@List.lookup_cons
def ztT:=@List.not_mem_nil
def ztU:=@Bool.and_eq_true
def ztV:=@List.take_length
def ztW:=@List.all_eq_true
def ztX:=@Option.some.inj
def ztY:=@Nat.pow_le_pow_right
def ztZ:=@List.getElem?_append_left
def zt0:=@List.length_singleton
def zt1:=@List.length_filter_le
def zt2:=@List.getElem?_eq_none
def zt3:=@Nat.le_add_right
def zt4:=@List.map_map
def zt5:=@Int.toNat_natCast
def zt6:=@List.filter_append
def zt7:=@Int.emod_lt_of_pos
def zt8:=@Bool.eq_iff_iff
def zt9:=@List.getElem_mem
def zua:=@List.getElem_of_mem
def zub:=@Int.emod_nonneg
set_option Elab.async false
set_option linter.all false
set_option maxRecDepth 100000
namespace L2
open PySem PySem.Spec PyProof.Rows
abbrev Key:=Sum Int Str
def zbV:Key->Value->Bool
 | .inl k,v=>Value.isInt k v
 | .inr x,v=>Value.isStrOf x v
def zo0 (w:World):Key->Int
 | .inl k=>hashInt k
 | .inr x=>hashStr w x
theorem xM:∀{k:Key} {v:Value},zbV k v=true->(∃i t,k=Sum.inl i/\v=Value.int i t)\/(∃x t,k=Sum.inr x/\v=Value.str x t)
 | .inl i,v,h=>by
  obtain⟨t,e⟩:=Value.isInt_shape (k:=i) (v:=v) h
  exact .inl ⟨i,t,rfl,e⟩
 | .inr x,v,h=>by
  obtain⟨t,e⟩:=Value.isStrOf_shape (x:=x) (v:=v) h
  exact .inr ⟨x,t,rfl,e⟩
theorem zhv (i:Int)(t:Tok):zbV (.inl i) (.int i t)=true:=by simp[zbV,Value.isInt]
theorem zhw (x:Str)(t:Tok):zbV (.inr x) (.str x t)=true:=by simp[zbV,Value.isStrOf]
theorem zmc (a b:Int):decide ((Sum.inl a:Key)=Sum.inl b)=(a==b):=by
 by_cases e:a=b
 ·subst e;simp
 ·have h:¬(Sum.inl a:Key)=Sum.inl b:=fun q=>e (Sum.inl.inj q)
  rw[decide_eq_false h]
  exact(beq_eq_false_iff_ne.mpr e).symm
theorem zmd (a b:Str):decide ((Sum.inr a:Key)=Sum.inr b)=decide (a=b):=by
 by_cases e:a=b
 ·subst e;simp
 ·have h:¬(Sum.inr a:Key)=Sum.inr b:=fun q=>e (Sum.inr.inj q)
  rw[decide_eq_false h,decide_eq_false e]
theorem zme (a:Int)(b:Str):decide ((Sum.inl a:Key)=Sum.inr b)=false:=decide_eq_false (fun q=>nomatch q)
theorem zmf (a:Str)(b:Int):decide ((Sum.inr a:Key)=Sum.inl b)=false:=decide_eq_false (fun q=>nomatch q)
def yd (prog:Program)(w:World):PySem.KeyKind prog w Key where
 is:=zbV
 hash:=zo0 w
 inj:=fun v a b ha hb=>by
  rcases xM ha with ⟨i,t,rfl,rfl⟩ | ⟨x,t,rfl,rfl⟩
  ·rcases xM hb with ⟨j,u,rfl,e⟩ | ⟨y,u,rfl,e⟩
   ·injection e with e1 _;rw[e1]
   ·exact nomatch e
  ·rcases xM hb with ⟨j,u,rfl,e⟩ | ⟨y,u,rfl,e⟩
   ·exact nomatch e
   ·injection e with e1 _;rw[e1]
 byValue:=fun k v h=>by
  rcases xM h with ⟨i,t,rfl,rfl⟩ | ⟨x,t,rfl,rfl⟩<;>rfl
 pyHash:=fun hv h=>by
  rcases xM hv with ⟨i,t,rfl,rfl⟩ | ⟨x,t,rfl,rfl⟩
  ·exact wpAny_pyHash_int h
  ·exact wpAny_pyHash_str h
 eqBool:=fun hu hv h=>by
  rcases xM hu with ⟨i,t,rfl,rfl⟩ | ⟨x,t,rfl,rfl⟩
  ·rcases xM hv with ⟨j,u,rfl,rfl⟩ | ⟨y,u,rfl,rfl⟩
   ·rw[zmc] at h;exact wpAny_eqBool_int h
   ·rw[zme] at h;exact SeqAt.EqAt.int_str i t y u _ _ _ _ h
  ·rcases xM hv with ⟨j,u,rfl,rfl⟩ | ⟨y,u,rfl,rfl⟩
   ·rw[zmf] at h;exact SeqAt.EqAt.str_int x t j u _ _ _ _ h
   ·rw[zmd] at h;exact wpAny_eqBool_str h
 «strs»:=fun k x t v h=>by
  rcases xM h with ⟨i,u,rfl,e⟩ | ⟨y,u,rfl,e⟩
  ·exact nomatch e
  ·injection e with e1 _
   subst e1
   cases v<;>rfl
theorem zd4 (prog:Program)(w:World)(i:Int)(t:Tok):(yd prog w).is (.inl i) (.int i t)=true:=zhv i t
theorem zd5 (prog:Program)(w:World)(x:Str)(t:Tok):(yd prog w).is (.inr x) (.str x t)=true:=zhw x t
inductive V where
 | non | bl (b:Bool) | int (i:Int) | str (x:Str) | byt (b:Array UInt8) | flt (b:UInt64) | ref (a:Addr) | ty (n:String)
 deriving DecidableEq
def RelV:V->Value->Prop
 | .non,u=>u=Value.none
 | .bl b,u=>u=Value.bool b
 | .int i,u=>∃t,u=Value.int i t
 | .str x,u=>∃t,u=Value.str x t
 | .byt b,u=>∃t,u=Value.bytes b t
 | .flt b,u=>∃t,u=Value.float b t
 | .ref a,u=>u=Value.ref a
 | .ty n,u=>u=Value.type n
abbrev Vals:List V->List Value->Prop:=Paired RelV
theorem Vals.length {xs:List V}{us:List Value}(r:Vals xs us):xs.length=us.length:=Paired.length r
theorem Vals.get:∀{xs:List V} {us:List Value} {i:Nat} {x:V},Vals xs us->xs[i]?=some x->∃u,us[i]?=some u/\RelV x u
 | _,_,_,_,.nil,e=>by simp at e
 | _,_,0,_,.cons r _,e=>by simp at e;subst e;exact⟨_,rfl,r⟩
 | _,_,i+1,x,.cons _ t,e=>by
  obtain⟨u,h1,h2⟩:=Vals.get (i:=i) (x:=x) t (by simpa using e)
  exact⟨u,by simpa using h1,h2⟩
theorem Vals.append:∀{xs ys:List V} {us ws:List Value},Vals xs us->Vals ys ws->Vals (xs++ys) (us++ws)
 | _,_,_,_,.nil,s=>s
 | _,_,_,_,.cons r t,s=>.cons r (Vals.append t s)
theorem Vals.take:∀{xs:List V} {us:List Value} (n:Nat),Vals xs us->Vals (xs.take n) (us.take n)
 | _,_,0,_=>.nil
 | _,_,_+1,.nil=>.nil
 | _,_,n+1,.cons r t=>.cons r (Vals.take n t)
theorem Vals.drop:∀{xs:List V} {us:List Value} (n:Nat),Vals xs us->Vals (xs.drop n) (us.drop n)
 | _,_,0,r=>r
 | _,_,_+1,.nil=>.nil
 | _,_,n+1,.cons _ t=>Vals.drop n t
def T9:Option V->Option Value->Prop
 | some v,some u=>RelV v u
 | none,none=>True
 | _,_=>False
def KV {κ:Type}:List (κ×V)->List (κ×Value)->Prop:=Paired fun(p:κ×V) (q:κ×Value)=>p.1=q.1/\RelV p.2 q.2
def kV:Key->V
 | .inl i=>.int i
 | .inr x=>.str x
inductive HO where
 | lst (xs:List V)
 | tup (xs:List V)
 | dK (kvs:List (Key×V)) | dT (kvs:List (List Key×V))
 | set (S:Int->Bool) (n:Nat)
 | ins (C dx:Addr) (fs:List (Str×V))
 | own (x:Addr)
 | xd (fs:List (Str×V))
 | met (f x:Addr)
 | rng (lo hi:Int)
 | KY (o:Obj) (u:HO)
 | tbl (ps:Array Value)
 | ext (φ:Heap->Prop)
abbrev Hp:=Addr->Option HO
def upd (H:Hp)(a:Addr)(o:HO):Hp:=fun b=>if b=a then some o else H b
theorem zf {H:Hp}{a:Addr}{o:HO}:upd H a o a=some o:=by unfold upd;rw[if_pos rfl]
theorem zB {H:Hp}{a b:Addr}{o:HO}(h:b≠a):upd H a o b=H b:=by unfold upd;rw[if_neg h]
theorem zgD {H:Hp}{a:Addr}{o u:HO}:upd (upd H a o) a u=upd H a u:=by
 funext b;unfold upd;split<;>rfl
theorem Sd {H:Hp}{a b:Addr}{o u:HO}(h:H a=some o)(h':H b=some u)(d:o≠u):a≠b:=by
 intro e;subst e;rw[h] at h';exact d (ztX h')
theorem zy {H:Hp}{a b:Addr}{o:HO}(h:H a=some o)(h':H b=none):a≠b:=by
 intro e;subst e;rw[h] at h';cases h'
section
variable (P:Program)(w:World)
def xO (H:Hp)(h:Heap)(a:Addr):HO->Prop
 | .lst xs=>xs.length<=sizeLine/\∃(its:List Value) (n:Nat),Vals xs its/\h.get? a=some { cls:=.type "list", data:=.seq its.toArray n }
 | .tup xs=>xs.length<=sizeLine/\∃its:List Value,Vals xs its/\IsTup h a its.toArray
 | .dK kvs=>kvs.length<=sizeLine/\(a==sysModules)=false/\∃vs,KV kvs vs/\h.DictOf (yd P w) a vs
 | .dT kvs=>kvs.length<=sizeLine/\(a==sysModules)=false/\∃xs:List (List Key×Addr×Value),
   Paired (fun(p:List Key×V) (q:List Key×Addr×Value)=>p.1=q.1/\H q.2.1=some (.tup (p.1.map kV))/\RelV p.2 q.2.2) kvs xs /\
   ∃o es ep,h.get? a=some o/\o.ExactDict/\o.data=.dict es ep/\es.toList=xs.map (entryOfKey (tupleKind (yd P w)))/\(xs.map (·.1)).Nodup
 | .set S n=>h.SetOf (intKind P w) a S n
 | .ins C dx fs=>H dx=some (.own a)/\fs.length<=1000/\dx≠a/\h.get? a=some (PySem.W.instObj C dx) /\
   ∃mA,h.Ns1 dx mA/\(∀f,T9 (fs.lookup f) (mA f))/\PySem.Within mA (fs.map (·.1))
 | .own _=>∃o,h.get? a=some o
 | .xd fs=>∃mA,h.Ns1 a mA/\∀f,T9 (fs.lookup f) (mA f)
 | .rng lo hi=>∃t u v,h.get? a=some { cls:=.type "range", data:=.fields #[.int lo t,.int hi u,.int 1 v] }
 | .KY o u=>h.get? a=some o/\xO H h a u
 | .tbl ps=>∃qs:Array Value,h.get? a=some { cls:=.none,data:=.fields qs }/\(qs=#[]\/∃(c:Addr) (oc:Obj) (vs:Array Value) (q:Str) (t t':Tok),H c=some (.KY oc (.own a))/\qs=#[ps.getD 0 .none,ps.getD 1 .none,.ref c]/\ps[2]?=some (.str q t)/\oc.data=.fields vs/\vs[1]?=some (.str q t'))
 | .met f x=>h.get? a=some (PySem.W.methodObj (.ref f) (.ref x))
 | .ext φ=>φ h/\(∃o,h.get? a=some o)/\∀h1 h2:Heap,φ h1->(∀o,h1.get? a=some o->h2.get? a=some o)->φ h2
def QC (H:Hp)(h:Heap):Prop:=∀a o,H a=some o->xO P w H h a o
end
section
variable {P:Program}{w:World}{H H':Hp}{h h':Heap}{a:Addr}{o:HO}
theorem xO.lt (x:xO P w H h a o):a<h.objs.size:=by
 cases o with
 | lst xs=>obtain⟨_,_,_,_,e⟩:=x;exact ztz e
 | tup xs=>obtain⟨_,_,_,p⟩:=x;exact p.lt
 | dK kvs=>obtain⟨_,_,_,_,o,_,_,e,_⟩:=x;exact ztz e
 | dT kvs=>obtain⟨_,_,_,_,o,_,_,e,_⟩:=x;exact ztz e
 | set S n=>obtain⟨o,_,_,_,e,_⟩:=x;exact ztz e
 | ins C dx fs=>obtain⟨_,_,_,e,_⟩:=x;exact ztz e
 | own y=>obtain⟨_,e⟩:=x;exact ztz e
 | xd fs=>obtain⟨_,⟨_,_,_,e,_⟩,_⟩:=x;exact ztz e
 | rng lo hi=>obtain⟨_,_,_,e⟩:=x;exact ztz e
 | KY ob u=>obtain⟨e,_⟩:=x;exact ztz e
 | tbl ps=>obtain⟨_,e,_⟩:=x;exact ztz e
 | met f y=>exact ztz (show h.get? a=some _ from x)
 | ext φ=>obtain⟨_,⟨_,e⟩,_⟩:=x;exact ztz e
theorem Paired.zmh {α β:Type}{F G:α->β->Prop}:∀{l₁:List α} {l₂:List β},Paired F l₁ l₂->(∀a b,F a b->G a b)->Paired G l₁ l₂
 | _,_,.nil,_=>.nil
 | _,_,.cons r t,f=>.cons (f _ _ r) (Paired.zmh t f)
theorem xO.stay (x:xO P w H h a o)(k:∀b u,(b=a\/H b=some (.own a))->h.get? b=some u->h'.get? b=some u)
  (ho:∀b,H b=some (.own a)->H' b=some (.own a))(ht:∀b xs,H b=some (.tup xs)->H' b=some (.tup xs))(hz:∀b o u,H b=some (.KY o u)->H' b=some (.KY o u):=by exact fun _ _ _ q=>q):xO P w H' h' a o:=by
 induction o with
 | lst xs=>obtain⟨z,its,n,r,e⟩:=x;exact⟨z,its,n,r,k _ _ (.inl rfl) e⟩
 | tup xs=>obtain⟨z,its,r,ob,e,c⟩:=x;exact⟨z,its,r,ob,k _ _ (.inl rfl) e,c⟩
 | dK kvs=>obtain⟨z,y,vs,r,ob,es,ep,e,c⟩:=x;exact⟨z,y,vs,r,ob,es,ep,k _ _ (.inl rfl) e,c⟩
 | dT kvs =>
  obtain⟨z,y,xs,r,ob,es,ep,e,c⟩:=x
  exact⟨z,y,xs,Paired.zmh r fun p q z=>⟨z.1,ht _ _ z.2.1,z.2.2⟩,ob,es,ep,k _ _ (.inl rfl) e,c⟩
 | set S n=>obtain⟨ob,es,ep,t,e,c⟩:=x;exact⟨ob,es,ep,t,k _ _ (.inl rfl) e,c⟩
 | ins C dx fs =>
  obtain⟨d,z,ne,e,mA,⟨od,es,ep,e2,c⟩,r⟩:=x
  exact⟨ho _ d,z,ne,k _ _ (.inl rfl) e,mA,⟨od,es,ep,k _ _ (.inr d) e2,c⟩,r⟩
 | own y=>obtain⟨ob,e⟩:=x;exact⟨ob,k _ _ (.inl rfl) e⟩
 | xd fs=>obtain⟨mA,⟨od,es,ep,e,c⟩,r⟩:=x;exact⟨mA,⟨od,es,ep,k _ _ (.inl rfl) e,c⟩,r⟩
 | rng lo hi=>obtain⟨t,u,v,e⟩:=x;exact⟨t,u,v,k _ _ (.inl rfl) e⟩
 | KY ob u ih=>obtain⟨e,q⟩:=x;exact⟨k _ _ (.inl rfl) e,ih q⟩
 | tbl ps =>
  obtain⟨qs,e,z⟩:=x
  refine⟨qs,k a _ (.inl rfl) e,?_⟩
  rcases z with z | ⟨c,oc,vs,q,t,t',hc,z⟩
  ·exact .inl z
  ·exact .inr ⟨c,oc,vs,q,t,t',hz _ _ _ hc,z⟩
 | met f y =>
  have e:h.get? a=some (PySem.W.methodObj (.ref f) (.ref y)):=x
  show h'.get? a=some (PySem.W.methodObj (.ref f) (.ref y))
  exact k a _ (.inl rfl) e
 | ext φ=>obtain⟨p,⟨o,e⟩,st⟩:=x;exact⟨st _ _ p fun o q=>k _ _ (.inl rfl) q,⟨o,k _ _ (.inl rfl) e⟩,st⟩
theorem QC.lt (x:QC P w H h)(e:H a=some o):a<h.objs.size:=(x a o e).lt
theorem QC.fresh (x:QC P w H h)(e:h.objs.size<=a):H a=none:=by
 cases q:H a with
 | none=>rfl
 | some u=>exact absurd (ztB (x.lt q) e) (Nat.lt_irrefl _)
theorem QC.kept (x:QC P w H h)(k:∀b u,h.get? b=some u->h'.get? b=some u):QC P w H h':=fun a o e =>
 (x a o e).stay (fun b u _ q=>k b u q) (fun _ q=>q) fun _ _ q=>q
theorem QC.laid (x:QC P w H h)(k:∀b u,h.get? b=some u->h'.get? b=some u)(hp:h.objs.size<=a)(new:xO P w (upd H a o) h' a o):QC P w (upd H a o) h':=fun b u e=>by
 have hn:=x.fresh hp
 by_cases hb:b=a
 ·subst hb;rw[zf] at e;cases e;exact new
 ·rw[zB hb] at e
  exact(x b u e).stay (fun c v _ q=>k c v q) (fun c q=>by rw[zB (zy q hn)];exact q) (fun c xs q=>by rw[zB (zy q hn)];exact q) fun c o u q=>by rw[zB (zy q hn)];exact q
end
def Rd (H:Hp)(a:Addr)(u:HO):Prop:=H a=some u\/∃o,H a=some (.KY o u)
theorem Rd.ok {P:Program}{w:World}{H:Hp}{h:Heap}{a:Addr}{u:HO}(r:Rd H a u)(x:QC P w H h):xO P w H h a u:=by
 rcases r with r | ⟨o,r⟩
 ·exact x a u r
 ·obtain⟨_,q⟩:=x a _ r
  exact q
def Mut:Option HO->Prop
 | some (.lst _)=>True
 | some (.dK _)=>True
 | some (.dT _)=>True
 | some (.set _ _)=>True
 | some (.ins _ _ _)=>True
 | some (.ext _)=>True
 | _=>False
section
variable {P:Program}{w:World}{H:Hp}{h h':Heap}{x e:Addr}{o':HO}
theorem QC.write (ok:QC P w H h)(mu:Mut (H x))(he:e=x\/H e=some (.own x))(k:∀b u,b≠e->h.get? b=some u->h'.get? b=some u)(heo:∃u,h'.get? e=some u)
  (new:xO P w (upd H x o') h' x o'):QC P w (upd H x o') h':=fun b u q=>by
 have znh:∀c y,H c=some (.own y)->c≠x:=fun c y r z=>by subst z;rw[r] at mu;exact mu
 have zo1:∀c xs,H c=some (.tup xs)->c≠x:=fun c xs r z=>by subst z;rw[r] at mu;exact mu
 by_cases hb:b=x
 ·subst hb;rw[zf] at q;cases q;exact new
 ·rw[zB hb] at q
  by_cases hbe:b=e
  ·have q':H b=some (.own x):=by
    rcases he with z | z
    ·exact absurd (hbe.trans z) hb
    ·rw[hbe];exact z
   rw[q] at q';cases q'
   obtain⟨v,hv⟩:=heo
   exact⟨v,by rw[hbe];exact hv⟩
  ·refine(ok b u q).stay (fun c v hc r=>k c v ?_ r) (fun c r=>by rw[zB (znh c b r)];exact r) (fun c xs r=>by rw[zB (zo1 c xs r)];exact r) fun c ob xs r=>by rw[zB (fun z=>by subst z;rw[r] at mu;exact mu)];exact r
   rcases hc with rfl | hc
   ·exact hbe
   ·rintro rfl
    rcases he with z | z
    ·exact znh c b hc z
    ·rw[hc] at z;cases z;exact hb rfl
end
structure Un (fs ex:List Addr)(H H':Hp)(h h':Heap):Prop where
 keep:∀b o,h.get? b=some o->H b=none->b∉fs->b∉ex->h'.get? b=some o
 slot:∀b o,h.get? b=some o->H b=none->b∈fs->b∉ex->∃sl,h'.get? b=some { o with slots:=sl }
 free:∀b o,h.get? b=some o->H b=none->b∉ex->H' b=none
 there:∀b o,h.get? b=some o->b∉ex->∃o',h'.get? b=some o'
 tups:∀b xs,H b=some (.tup xs)->H' b=some (.tup xs)
 zbr:∀b o u,H b=some (.KY o u)->H' b=some (.KY o u)
 zcH:∀b ps,H b=some (.tbl ps)->∃more,H' b=some (.tbl (ps++more))
section
variable {fs fs' ex ex':List Addr}{H H1 H2:Hp}{h h1 h2 h':Heap}{a x e:Addr}{o:HO}
theorem Un.any (u:Un fs ex H H1 h h1){b:Addr}{ob:Obj}(q:h.get? b=some ob)(n:H b=none)(hx:b∉ex):∃sl,h1.get? b=some { ob with slots:=sl }:=by
 by_cases hb:b∈fs
 ·exact u.slot b ob q n hb hx
 ·exact⟨ob.slots,u.keep b ob q n hb hx⟩
theorem Un.kept (k:∀b u,h.get? b=some u->h'.get? b=some u):Un fs ex H H h h' :=
 ⟨fun b ob q _ _ _=>k b ob q,fun b ob q _ _ _=>⟨ob.slots,k b ob q⟩,fun _ _ _ n _=>n,fun b ob q _=>⟨ob,k b ob q⟩,fun _ _ q=>q,fun _ _ _ q=>q,fun _ ps q=>⟨#[],by rw[q];simp⟩⟩
theorem Un.refl:Un fs ex H H h h:=Un.kept fun _ _ q=>q
theorem Un.laid (k:∀b u,h.get? b=some u->h'.get? b=some u)(hp:h.objs.size<=a)(hn:H a=none):Un fs ex H (upd H a o) h h' where
 keep:=fun b u q _ _ _=>k b u q
 slot:=fun b u q _ _ _=>⟨u.slots,k b u q⟩
 free:=fun b u q n _=>by rw[zB (ztH (ztB (ztz q) hp))];exact n
 there:=fun b u q _=>⟨u,k b u q⟩
 tups:=fun b xs q=>by rw[zB (zy q hn)];exact q
 zbr:=fun b u xs q=>by rw[zB (zy q hn)];exact q
 zcH:=fun b ps q=>⟨#[],by rw[zB (zy q hn),q];simp⟩
theorem Un.write (mu:Mut (H x))(he:e=x\/H e=some (.own x))(k:∀b u,b≠e->h.get? b=some u->h'.get? b=some u)(heo:∃u,h'.get? e=some u):Un fs ex H (upd H x o) h h':=by
 have hx:∀b,H b=none->b≠x:=fun b n z=>by subst z;rw[n] at mu;exact mu
 have hb:∀b,H b=none->b≠e:=fun b n z=>by
  subst z
  rcases he with r | r
  ·exact hx b n r
  ·rw[n] at r;cases r
 have hm:∀b u,H b=some u->¬Mut (some u)->b≠x:=fun b u q nm z=>by subst z;rw[q] at mu;exact nm mu
 refine⟨fun b u q n _ _=>k b u (hb b n) q,fun b u q n _ _=>⟨u.slots,k b u (hb b n) q⟩,fun b u q n _=>by rw[zB (hx b n)];exact n,fun b u q _=>?_,
  fun b xs q=>by rw[zB (hm b _ q fun z=>z)];exact q,fun b u xs q=>by rw[zB (hm b _ q fun z=>z)];exact q,fun b ps q=>⟨#[],by rw[zB (hm b _ q fun z=>z),q];simp⟩⟩
 by_cases hbe:b=e
 ·subst hbe;exact heo
 ·exact⟨u,k b u hbe q⟩
end
def trk (h:Heap)(H:Hp):List Addr:=(List.range h.objs.size).filter fun a=>(H a).isSome
def zcI (h:Heap)(H:Hp):Heap:=PySem.W.hideAll h (trk h H)
theorem zhx (h:Heap)(H:Hp):(zcI h H).objs.size=h.objs.size:=PySem.W.hideAll_size _ _
theorem ziz {h:Heap}{H:Hp}{b:Addr}{o:Obj}(e:h.get? b=some o)(n:H b=none):(zcI h H).get? b=some o :=
 PySem.W.hideAll_get _ e fun hm=>by
  have q:(H b).isSome=true:=(List.mem_filter.mp hm).2
  rw[n] at q;simp at q
theorem zkl {h:Heap}{H:Hp}{b:Addr}{o:Obj}(e:(zcI h H).get? b=some o):h.get? b=some o/\H b=none:=by
 have e':h.get? b=some o:=PySem.W.of_hideAll (trk h H) e
 refine⟨e',?_⟩
 cases q:H b with
 | none=>rfl
 | some x =>
  have hm:b∈trk h H:=List.mem_filter.mpr ⟨List.mem_range.mpr (ztz e'),by simp[q]⟩
  have z:(zcI h H).get? b=none:=PySem.W.hideAll_none (trk h H) hm
  rw[z] at e;cases e
structure Mod (K:Frag)(mg:Str->Option Value)(base:Heap):Prop where
 kin:K.In base
 glob:base.Ns mainGlobals mg
 blt:∃mb,base.Ns builtinsNs mb/\∀x:Str,x ≠ "__name__" -> mb x=bootBuiltins x
 nolimit:base.NoLimit
structure Cx where
 prog:Program
 w:World
 K:Frag
 mg:Str->Option Value
 base:Heap
 A:Around
 N:List Str
 s₀:Shared
 H₀:Hp
 env:Env
 outer:List Env
 stack:List Env
 ex:List Addr
 fn:Str->Bool
 calm:Bool
 pn:List (Addr×Obj)
 xe:Value->Shared->Prop
def frs (l:List Env):List Addr:=l.filterMap (·.frame)
abbrev Cx.fs (X:Cx):List Addr:=frs X.outer
def Vis (sc:Scope)(x:Str):Prop:=sc.names.lookup x=some .local\/sc.names.lookup x=some .cell\/sc.names.lookup x=some .free
def Loc (sc:Scope)(x:Str):Prop:=sc.names.lookup x=some .local\/sc.names.lookup x=some .cell
def Look (env:Env)(h:Heap)(m:Str->Option Value)(x:Str)(u:Value):Prop :=
 (env.kindOf x=some .local/\m x=some u)\/((env.kindOf x=some .cell\/env.kindOf x=some .free)/\∃c,env.cells.lookup x=some c/\h.IsCell c (some u))
structure Cx.Ok (X:Cx):Prop where
 mod:Mod X.K X.mg X.base
 kind:X.env.scope.kind=.function
 glob:X.env.globals=mainGlobals
 blt:X.env.builtins=builtinsNs
 above:X.s₀.heap.objs.size<=X.env.locals
 inj:∀x y c,X.env.cells.lookup x=some c->X.env.cells.lookup y=some c->x=y
 has:∀x,(X.env.kindOf x=some .cell\/X.env.kindOf x=some .free)->∃c,X.env.cells.lookup x=some c
 cab:∀x c,X.fn x=true->X.env.cells.lookup x=some c->X.s₀.heap.objs.size<=c
 hd:X.calm=true->X.A.handled=none
 frames:X.A.frames=some X.stack
 stk:X.stack=X.outer\/(X.stack=X.env::X.outer/\X.env.frame=some X.env.locals)
 exf:∀b∈X.ex,b≠X.env.locals/\∀x c,X.env.cells.lookup x=some c->c≠b
 bs:∀b o,X.base.get? b=some o->X.s₀.heap.get? b=some o/\X.H₀ b=none
 bsz:X.base.objs.size<=X.s₀.heap.objs.size
 zhy:∀b o,X.base.get? b=some o->b∉X.ex
 zhz:∀b∈X.ex,b∉X.fs
 Lk:X.s₀.heap.FunFrames X.base X.outer
 frf:∀b∈X.fs,X.H₀ b=none
structure Inv (X:Cx)(pins:List (Addr×Obj))(σ:List (Option V))(H:Hp)(s:Shared):Prop where
 ok:X.Ok
 os:s.os=X.s₀.os
 bare:AllBare s.gens
 base:Un X.fs X.ex X.H₀ H X.s₀.heap s.heap
 loc:∃m,s.heap.Ns X.env.locals m/\∀(i:Nat) (x:Str) (v:V),X.N[i]?=some x->σ[i]?=some (some v)->Vis X.env.scope x->∃u,RelV v u/\Look X.env s.heap m x u
 cell:∀x c,X.env.cells.lookup x=some c->∃v,s.heap.IsCell c v
 free:H X.env.locals=none
 Tz:∀x c,X.env.cells.lookup x=some c->H c=none
 pin:∀p∈X.pn++pins,s.heap.get? p.1=some p.2/\H p.1=none/\p.1≠X.env.locals/\p.1∉X.fs/\∀v,p.2.data≠.cell v
 hok:QC X.prog X.w H s.heap
 len:σ.length=X.N.length
section
variable {X:Cx}{pins:List (Addr×Obj)}{σ:List (Option V)}{H H':Hp}{s:Shared}{h':Heap}
theorem Cx.Ok.zo2 (ok:X.Ok){b:Addr}{o:Obj}(e:X.base.get? b=some o):b∉X.fs:=fun hb=>by
 have:=(ok.Lk.mem hb).1
 rw[e] at this;cases this
theorem Inv.bs (I:Inv X pins σ H s):∀b o,X.base.get? b=some o->s.heap.get? b=some o/\H b=none:=fun b o e =>
 ⟨I.base.keep b o (I.ok.bs b o e).1 (I.ok.bs b o e).2 (I.ok.zo2 e) (I.ok.zhy b o e),I.base.free b o (I.ok.bs b o e).1 (I.ok.bs b o e).2 (I.ok.zhy b o e)⟩
theorem Inv.bk (I:Inv X pins σ H s):∀b o,X.base.get? b=some o->s.heap.get? b=some o:=fun b o e=>(I.bs b o e).1
theorem Inv.mod (I:Inv X pins σ H s):Mod X.K X.mg X.base:=I.ok.mod
theorem Inv.Ln (I:Inv X pins σ H s):X.K.In s.heap:=I.ok.mod.kin.keeps I.bk
theorem Inv.lt (I:Inv X pins σ H s):X.env.locals<s.heap.objs.size:=let ⟨_,hn,_⟩:=I.loc;hn.lt
theorem Inv.sz (I:Inv X pins σ H s):X.s₀.heap.objs.size<=s.heap.objs.size:=ztO I.ok.above (ztL I.lt)
theorem Inv.zmi (I:Inv X pins σ H s){a:Addr}(h:s.heap.objs.size<=a):a∉X.fs:=fun hb=>by
 obtain⟨_,o,ho,_⟩:=I.ok.Lk.mem hb
 exact absurd (ztB (ztz ho) (ztO I.sz h)) (Nat.lt_irrefl _)
theorem Inv.cne (I:Inv X pins σ H s):∀x c,X.env.cells.lookup x=some c->c≠X.env.locals:=fun x c e z=>by
 obtain⟨v,o,ho,hd⟩:=I.cell x c e
 obtain⟨m,⟨o',es,ep,ho',hd',_⟩,_⟩:=I.loc
 rw[z,ho'] at ho;cases ho;rw[hd'] at hd;cases hd
theorem Inv.Lk (I:Inv X pins σ H s):s.heap.FunFrames X.base X.outer:=by
 have all:∀(l:List Env),(∀b∈frs l,b∈X.fs)->X.s₀.heap.FunFrames X.base l->s.heap.FunFrames X.base l:=by
  intro l
  induction l with
  | nil=>intro _ _;trivial
  | cons env r ih =>
   intro hs hl
   obtain⟨hk,⟨L,o,hf,hn,ho,hd⟩,hr⟩:=hl
   have hL:L∈X.fs:=hs L (by unfold frs;rw[List.filterMap_cons,hf];exact ztM)
   obtain⟨sl,e⟩:=I.base.slot L o ho (I.ok.frf L hL) hL fun z=>I.ok.zhz L z hL
   exact⟨hk,⟨L,_,hf,hn,e,hd⟩,ih (fun b hb=>hs b (by unfold frs;rw[List.filterMap_cons,hf];exact ztD _ hb)) hr⟩
 exact all X.outer (fun _ hb=>hb) I.ok.Lk
theorem Inv.stack (I:Inv X pins σ H s):s.heap.FunFrames X.base X.stack:=by
 rcases I.ok.stk with e | ⟨e,hf⟩
 ·rw[e];exact I.Lk
 ·rw[e]
  obtain⟨m,hn,_⟩:=I.loc
  refine .cons (by rw[I.ok.kind];decide) hf hn ?_ I.Lk
  exact Heap.get?_none_of_le (ztO I.ok.bsz I.ok.above)
theorem Inv.zcJ (I:Inv X pins σ H s):∀b∈frs X.stack,b∈X.env.locals::X.fs:=fun b hb=>by
 rcases I.ok.stk with e | ⟨e,hf⟩
 ·rw[e] at hb;exact ztD _ hb
 ·rw[e] at hb
  unfold frs at hb
  rw[List.filterMap_cons,hf] at hb
  exact hb
theorem Inv.zgE (I:Inv X pins σ H s):∀b∈frs X.stack,H b=none:=fun b hb=>by
 rcases List.mem_cons.mp (I.zcJ b hb) with e | hb
 ·rw[e];exact I.free
 ·obtain⟨_,o,ho,_⟩:=I.ok.Lk.mem hb
  exact I.base.free b o ho (I.ok.frf b hb) fun z=>I.ok.zhz b z hb
theorem Inv.step {g':Array GenState}{t':Nat}{d':Drawn}{ch:List Addr}(I:Inv X pins σ H s)
  (hch:∀b∈ch,(b∈X.ex\/X.s₀.heap.objs.size<=b)/\b≠X.env.locals/\(∀x c,X.env.cells.lookup x=some c->c≠b)/\∀p∈X.pn++pins,p.1≠b)
  (keep:∀b o,b≠X.env.locals->b∉X.fs->b∉ch->s.heap.get? b=some o->H b=none->h'.get? b=some o)
  (slot:∀b o,b≠X.env.locals->b∈X.fs->b∉ch->s.heap.get? b=some o->H b=none->∃sl,h'.get? b=some { o with slots:=sl })(free:∀b o,b∉ch->s.heap.get? b=some o->H b=none->H' b=none)
  (there:∀b o,b∉ch->s.heap.get? b=some o->∃o',h'.get? b=some o')
  (tups:∀b xs,H b=some (.tup xs)->H' b=some (.tup xs))(zbr:∀b o u,H b=some (.KY o u)->H' b=some (.KY o u))(zcH:∀b ps,H b=some (.tbl ps)->∃more,H' b=some (.tbl (ps++more)))
  (ns:∀m,s.heap.Ns X.env.locals m->h'.Ns X.env.locals m)(hok:QC X.prog X.w H' h')(hg:AllBare g') :
  Inv X pins σ H' { s with heap:=h',gens:=g',drawn:=d',toks:=t' }:=by
 have neL:∀b o,X.s₀.heap.get? b=some o->b≠X.env.locals:=fun b o e=>ztH (ztB (ztz e) I.ok.above)
 have neC:∀b o,X.s₀.heap.get? b=some o->b∉X.ex->b∉ch:=fun b o e hx hb=>by
  rcases (hch b hb).1 with z | z
  ·exact hx z
  ·exact absurd (ztB (ztz e) z) (Nat.lt_irrefl _)
 have cellK:∀x c,X.env.cells.lookup x=some c->∀v,s.heap.IsCell c v->h'.IsCell c v:=fun x c e v ⟨o,ho,hd⟩=>by
  have nch:c∉ch:=fun z=>(hch c z).2.2.1 x c e rfl
  by_cases hc:c∈X.fs
  ·obtain⟨sl,q⟩:=slot c o (I.cne x c e) hc nch ho (I.Tz x c e)
   exact⟨_,q,hd⟩
  ·exact⟨o,keep c o (I.cne x c e) hc nch ho (I.Tz x c e),hd⟩
 refine⟨I.ok,I.os,hg,⟨fun b o e n hb hx=>?_,fun b o e n hb hx=>?_,fun b o e n hx=>?_,fun b o e hx=>?_,fun b xs e=>tups b xs (I.base.tups b xs e),fun b o xs e=>zbr b o xs (I.base.zbr b o xs e),fun b ps e=>?_⟩,?_,fun x c e=>?_,?_,fun x c e=>?_,fun p hp=>?_,hok,I.len⟩
 ·exact keep b o (neL b o e) hb (neC b o e hx) (I.base.keep b o e n hb hx) (I.base.free b o e n hx)
 ·obtain⟨sl,e1⟩:=I.base.slot b o e n hb hx
  obtain⟨sl',e2⟩:=slot b _ (neL b o e) hb (neC b o e hx) e1 (I.base.free b o e n hx)
  exact⟨sl',e2⟩
 ·obtain⟨o',e1⟩:=I.base.there b o e hx
  exact free b o' (neC b o e hx) e1 (I.base.free b o e n hx)
 ·obtain⟨o',e1⟩:=I.base.there b o e hx
  exact there b o' (neC b o e hx) e1
 ·obtain⟨m1,e1⟩:=I.base.zcH b ps e
  obtain⟨m2,e2⟩:=zcH b _ e1
  exact⟨m1++m2,by rw[e2,Array.append_assoc]⟩
 ·obtain⟨m,hn,hl⟩:=I.loc
  refine⟨m,ns m hn,fun i x v e1 e2 e3=>?_⟩
  obtain⟨u,r,l⟩:=hl i x v e1 e2 e3
  refine⟨u,r,?_⟩
  rcases l with l | ⟨k,c,e,z⟩
  ·exact .inl l
  ·exact .inr ⟨k,c,e,cellK x c e _ z⟩
 ·obtain⟨v,z⟩:=I.cell x c e
  exact⟨v,cellK x c e v z⟩
 ·obtain⟨m,⟨o,_,_,ho,_⟩,_⟩:=I.loc
  exact free _ o (fun z=>(hch _ z).2.1 rfl) ho I.free
 ·obtain⟨v,o,ho,hd⟩:=I.cell x c e
  exact free c o (fun z=>(hch c z).2.2.1 x c e rfl) ho (I.Tz x c e)
 ·obtain⟨e,n,ne,nf,d⟩:=I.pin p hp
  have nch:p.1∉ch:=fun z=>(hch p.1 z).2.2.2 p hp rfl
  exact⟨keep p.1 p.2 ne nf nch e n,free p.1 p.2 nch e n,ne,nf,d⟩
theorem Inv.un {t':Nat}(I:Inv X pins σ H s)(u:Un X.fs [] H H' s.heap h')(hok:QC X.prog X.w H' h'):Inv X pins σ H' { s with heap:=h',toks:=t' }:=by
 obtain⟨m,⟨o,es,ep,ho,r⟩,_⟩:=id I.loc
 obtain⟨sl,hL⟩:=u.any ho I.free (by simp)
 exact I.step (g':=s.gens) (d':=s.drawn) (ch:=[]) (fun _ z=>nomatch z) (fun b o _ hb _ e n=>u.keep b o e n hb (by simp)) (fun b o _ hb _ e n=>u.slot b o e n hb (by simp)) (fun b o _ e n=>u.free b o e n (by simp)) (fun b o _ e=>u.there b o e (by simp)) u.tups u.zbr u.zcH (fun m' hm=>by
  obtain⟨o',es',ep',ho',r'⟩:=hm
  rw[ho] at ho';cases ho'
  exact⟨_,es',ep',hL,r'⟩) hok I.bare
theorem Inv.call {g':Array GenState}{t':Nat}{d':Drawn}{ch:List Addr}(I:Inv X pins σ H s)(u:Un (frs X.stack) ch H H' s.heap h')(hok:QC X.prog X.w H' h')(hg:AllBare g')
  (hch:∀b∈ch,(b∈X.ex\/X.s₀.heap.objs.size<=b)/\b≠X.env.locals/\(∀x c,X.env.cells.lookup x=some c->c≠b)/\∀p∈X.pn++pins,p.1≠b) :
  Inv X pins σ H' { s with heap:=h',gens:=g',drawn:=d',toks:=t' }:=by
 obtain⟨m,⟨o,es,ep,ho,r⟩,_⟩:=id I.loc
 obtain⟨sl,hL⟩:=u.any ho I.free fun z=>(hch _ z).2.1 rfl
 exact I.step (ch:=ch) hch (fun b o hL hb hc e n=>u.keep b o e n (fun z=>(List.mem_cons.mp (I.zcJ b z)).elim hL hb) hc) (fun b o _ _ hc e n=>u.any e n hc) (fun b o hc e n=>u.free b o e n hc) (fun b o hc e=>u.there b o e hc) u.tups u.zbr u.zcH (fun m' hm=>by
  obtain⟨o',es',ep',ho',r'⟩:=hm
  rw[ho] at ho';cases ho'
  exact⟨_,es',ep',hL,r'⟩) hok hg
theorem Inv.turned {t':Nat}{it:Addr}(I:Inv X pins σ H s)(k:∀b o,b≠it->s.heap.get? b=some o->h'.get? b=some o)(hn:H it=none)(hL:it≠X.env.locals)
  (h1:it∈X.ex\/X.s₀.heap.objs.size<=it)(h2:∀x c,X.env.cells.lookup x=some c->c≠it)(h3:∀p∈X.pn++pins,p.1≠it):Inv X pins σ H { s with heap:=h',toks:=t' }:=by
 have nit:∀b u,H b=some u->b≠it:=fun b u e z=>by rw[z,hn] at e;cases e
 refine I.step (g':=s.gens) (d':=s.drawn) (ch:=[it]) (fun b hb=>?_) (fun b o _ _ hc e _=>k b o (fun z=>hc (by simp[z])) e) (fun b o _ _ hc e _=>⟨o.slots,k b o (fun z=>hc (by simp[z])) e⟩) (fun _ _ _ _ n=>n)
  (fun b o hc e=>⟨o,k b o (fun z=>hc (by simp[z])) e⟩) (fun _ _ e=>e) (fun _ _ _ e=>e) (fun b ps e=>⟨#[],by rw[e];simp⟩) (fun m hm=>?_) (fun b u e=>?_) I.bare
 ·have e:b=it:=by simpa using hb
  subst e
  exact⟨h1,hL,h2,h3⟩
 ·obtain⟨o,es,ep,ho,r⟩:=hm
  exact⟨o,es,ep,k _ o (Ne.symm hL) ho,r⟩
 ·refine(I.hok b u e).stay (fun c v hc q=>k c v ?_ q) (fun _ q=>q) fun _ _ q=>q
  rcases hc with z | z
  ·rw[z];exact nit b u e
  ·exact nit c _ z
theorem Inv.tok (I:Inv X pins σ H s)(t:Nat):Inv X pins σ H { s with toks:=t }:=I.un (h':=s.heap) (t':=t) Un.refl I.hok
theorem Inv.kept {t':Nat}(I:Inv X pins σ H s)(k:∀b u,s.heap.get? b=some u->h'.get? b=some u):Inv X pins σ H { s with heap:=h',toks:=t' }:=I.un (Un.kept k) (I.hok.kept k)
theorem Inv.laid {a:Addr}{o:HO}{t':Nat}(I:Inv X pins σ H s)(k:∀b u,s.heap.get? b=some u->h'.get? b=some u)(hp:s.heap.objs.size<=a)(new:xO X.prog X.w (upd H a o) h' a o) :
  Inv X pins σ (upd H a o) { s with heap:=h',toks:=t' }:=I.un (Un.laid k hp (I.hok.fresh hp)) (I.hok.laid k hp new)
theorem Inv.write {x e:Addr}{o:HO}{t':Nat}(I:Inv X pins σ H s)(mu:Mut (H x))(he:e=x\/H e=some (.own x))(k:∀b u,b≠e->s.heap.get? b=some u->h'.get? b=some u)(heo:∃u,h'.get? e=some u)
  (new:xO X.prog X.w (upd H x o) h' x o):Inv X pins σ (upd H x o) { s with heap:=h',toks:=t' }:=I.un (Un.write mu he k heo) (I.hok.write mu he k heo new)
theorem Inv.Xv {pins':List (Addr×Obj)}(I:Inv X pins σ H s)(h:∀p∈pins',s.heap.get? p.1=some p.2/\H p.1=none/\p.1≠X.env.locals/\p.1∉X.fs/\∀v,p.2.data≠.cell v):Inv X pins' σ H s :=
 ⟨I.ok,I.os,I.bare,I.base,I.loc,I.cell,I.free,I.Tz,fun p hp=>(List.mem_append.mp hp).elim (fun z=>I.pin p (List.mem_append_left _ z)) (h p),I.hok,I.len⟩
theorem zd6 {N:List Str}(hN:N.Nodup){i j:Nat}{x:Str}(a:N[i]?=some x)(b:N[j]?=some x):i=j:=by
 obtain⟨h1,e1⟩:=ztv.mp a
 obtain⟨h2,e2⟩:=ztv.mp b
 exact(List.getElem_inj hN).mp (e1.trans e2.symm)
theorem zhA {M:Model}{A:Around}{E:Value->Shared->Prop}{i:Nat}{x:Str}{v:V}{u:Value}{Q:Unit->Shared->Prop}(I:Inv X pins σ H s)(hN:X.N.Nodup)(hi:X.N[i]?=some x)(hx:Loc X.env.scope x)(r:RelV v u)
  (h:∀s',Inv X pins (σ.set i (some v)) H s'->(∃a,Heap.SameBut a s.heap s'.heap/\(a=X.env.locals\/X.env.cells.lookup x=some a))->Q () s')(hf:X.fn x=true\/X.env.scope.names.lookup x=some .local:=by first | exact .inl rfl | exact .inr rfl | assumption):wpAny M A (storeName X.env x u) Q E s:=by
 obtain⟨m,hn,hl⟩:=id I.loc
 have hcls:(X.env.scope.kind==.class||(X.env.scope.kind==.module&&X.env.locals != X.env.globals))=false:=by rw[I.ok.kind];rfl
 have hiσ:i < σ.length:=by rw[I.len];exact(ztv.mp hi).1
 have cne:=I.cne
 have tracked:∀{a:Addr} {h':Heap},(∃o,s.heap.get? a=some o/\H a=none)->Heap.SameBut a s.heap h'->QC X.prog X.w H h':=fun {a h'} ha hs b ob e=>by
  obtain⟨_,_,hfree⟩:=ha
  refine(I.hok b ob e).stay (fun c w' hc q=>(hs.2 c ?_).trans q) (fun _ q=>q) fun _ _ q=>q
  rintro rfl
  rcases hc with rfl | hc
  ·rw[hfree] at e;cases e
  ·rw[hfree] at hc;cases hc
 rcases hx with hk | hk
 ·refine wpAny_storeName_local hk hn (fun h' hn' hs=>?_) hcls
  obtain⟨oL,_,_,hoL,_⟩:=id hn
  refine h _ ⟨I.ok,I.os,I.bare,⟨fun b o e n hb hx=>?_,fun b o e n hb hx=>?_,I.base.free,fun b o e hx=>?_,I.base.tups,I.base.zbr,I.base.zcH⟩,⟨_,hn',fun j y v' e1 e2 e3=>?_⟩,fun y c e=>?_,I.free,I.Tz,fun p hp=>?_,tracked ⟨oL,hoL,I.free⟩ hs,by simpa using I.len⟩ ⟨_,hs,.inl rfl⟩
  ·exact(hs.2 b (ztH (ztB (ztz e) I.ok.above))).trans (I.base.keep b o e n hb hx)
  ·obtain⟨sl,e1⟩:=I.base.slot b o e n hb hx
   exact⟨sl,(hs.2 b (ztH (ztB (ztz e) I.ok.above))).trans e1⟩
  ·obtain⟨o',e1⟩:=I.base.there b o e hx
   exact⟨o',(hs.2 b (ztH (ztB (ztz e) I.ok.above))).trans e1⟩
  ·by_cases hj:j=i
   ·subst hj
    rw[hi] at e1;cases e1
    rw[List.getElem?_set_self hiσ] at e2
    cases e2
    exact⟨u,r,.inl ⟨hk,by simp⟩⟩
   ·rw[List.getElem?_set_ne (Ne.symm hj)] at e2
    obtain⟨u',r',q⟩:=hl j y v' e1 e2 e3
    refine⟨u',r',?_⟩
    rcases q with ⟨k,e⟩ | ⟨k,c,e,z⟩
    ·refine .inl ⟨k,?_⟩
     have:y≠x:=fun e=>hj (zd6 hN e1 (e ▸ hi))
     simp[this,e]
    ·exact .inr ⟨k,c,e,z.sameBut hs (cne y c e)⟩
  ·obtain⟨w',z⟩:=I.cell y c e
   exact⟨w',z.sameBut hs (cne y c e)⟩
  ·obtain⟨e,n,ne,nf,d⟩:=I.pin p hp
   exact⟨(hs.2 p.1 ne).trans e,n,ne,nf,d⟩
 ·have hfn:X.fn x=true:=by
   rcases hf with z | z
   ·exact z
   ·rw[z] at hk;cases hk
  obtain⟨c,hc⟩:=I.ok.has x (.inl hk)
  obtain⟨w',z⟩:=I.cell x c hc
  refine wpAny_storeName_cell I.ok.kind hk hc z (fun h' hc' hs=>?_)
  obtain⟨oc,hoc,zo3⟩:=id z
  refine h { s with heap:=h' } ⟨I.ok,I.os,I.bare,⟨fun b o e n hb hx=>?_,fun b o e n hb hx=>?_,I.base.free,fun b o e hx=>?_,I.base.tups,I.base.zbr,I.base.zcH⟩,⟨m,hn.sameBut hs (Ne.symm (cne x c hc)),fun j y v' e1 e2 e3=>?_⟩,fun y c' e=>?_,I.free,I.Tz,fun p hp=>?_,tracked ⟨oc,hoc,I.Tz x c hc⟩ hs,by simpa using I.len⟩ ⟨c,hs,.inr hc⟩
  ·exact(hs.2 b (ztH (ztB (ztz e) (I.ok.cab x c hfn hc)))).trans (I.base.keep b o e n hb hx)
  ·obtain⟨sl,e1⟩:=I.base.slot b o e n hb hx
   exact⟨sl,(hs.2 b (ztH (ztB (ztz e) (I.ok.cab x c hfn hc)))).trans e1⟩
  ·obtain⟨o',e1⟩:=I.base.there b o e hx
   exact⟨o',(hs.2 b (ztH (ztB (ztz e) (I.ok.cab x c hfn hc)))).trans e1⟩
  ·by_cases hj:j=i
   ·subst hj
    rw[hi] at e1;cases e1
    rw[List.getElem?_set_self hiσ] at e2
    cases e2
    exact⟨u,r,.inr ⟨.inl hk,c,hc,hc'⟩⟩
   ·rw[List.getElem?_set_ne (Ne.symm hj)] at e2
    obtain⟨u',r',q⟩:=hl j y v' e1 e2 e3
    refine⟨u',r',?_⟩
    rcases q with q | ⟨k,c',e,z'⟩
    ·exact .inl q
    ·refine .inr ⟨k,c',e,z'.sameBut hs ?_⟩
     rintro rfl
     exact hj (zd6 hN e1 (I.ok.inj _ _ _ e hc ▸ hi))
  ·by_cases hcc:c'=c
   ·subst hcc;exact⟨_,hc'⟩
   ·obtain⟨w2,z2⟩:=I.cell y c' e
    exact⟨w2,z2.sameBut hs hcc⟩
  ·obtain⟨e,n,ne,nf,d⟩:=I.pin p hp
   refine⟨(hs.2 p.1 ?_).trans e,n,ne,nf,d⟩
   intro q
   rw[q,hoc] at e
   have q':oc=p.2:=ztX e
   exact d w' (by rw[<-q'];exact zo3)
theorem zai {M:Model}{A:Around}{E:Value->Shared->Prop}{i:Nat}{x:Str}{v:V}{u:Value}{Q:Unit->Shared->Prop}(I:Inv X pins σ H s)(hN:X.N.Nodup)(hi:X.N[i]?=some x)(hx:Loc X.env.scope x)(r:RelV v u)
  (h:∀s',Inv X pins (σ.set i (some v)) H s'->Q () s')(hf:X.fn x=true\/X.env.scope.names.lookup x=some .local:=by first | exact .inl rfl | exact .inr rfl | assumption):wpAny M A (storeName X.env x u) Q E s :=
 zhA I hN hi hx r (fun s' I' _=>h s' I') hf
theorem Inv.call' {s':Shared}{ch:List Addr}(I:Inv X pins σ H s)(ho:s'.os=s.os)(u:Un (frs X.stack) ch H H' s.heap s'.heap)(hok:QC X.prog X.w H' s'.heap)(hg:AllBare s'.gens)
  (hch:∀b∈ch,(b∈X.ex\/X.s₀.heap.objs.size<=b)/\b≠X.env.locals/\(∀x c,X.env.cells.lookup x=some c->c≠b)/\∀p∈X.pn++pins,p.1≠b):Inv X pins σ H' s':=by
 obtain⟨h',g',d',t',o'⟩:=s'
 have e:o'=s.os:=ho
 subst e
 exact I.call (g':=g') (t':=t') (d':=d') u hok hg hch
end
abbrev XK:=Value->Option Addr->Hp->Prop
abbrev St:=List (Option V)
abbrev VK:=V->Hp->Prop
abbrev TE:=St->Hp->VK->Prop
abbrev TT:=St->Hp->(Bool->Hp->Prop)->Prop
abbrev TA:=St->Hp->(List V->Hp->Prop)->Prop
structure Ends where
 nx:St->Hp->Prop
 rt:VK
 bk:St->Hp->Prop:=fun _ _=>False
 ct:St->Hp->Prop:=fun _ _=>False
abbrev TS:=Ends->St->Hp->Prop
def EP (X:Cx)(pins:List (Addr×Obj))(σ:St)(Q:VK)(u:Value)(s':Shared):Prop:=∃v H',Inv X pins σ H' s'/\RelV v u/\Q v H'
def TP (X:Cx)(pins:List (Addr×Obj))(σ:St)(Q:Bool->Hp->Prop)(b:Bool)(s':Shared):Prop:=∃H',Inv X pins σ H' s'/\Q b H'
def AP (X:Cx)(pins:List (Addr×Obj))(σ:St)(Q:List V->Hp->Prop)(us:List Value)(s':Shared):Prop:=∃vs H',Inv X pins σ H' s'/\Vals vs us/\Q vs H'
def SP (X:Cx)(pins:List (Addr×Obj))(D:Ends)(f:Flow)(s':Shared):Prop :=
 match f with
 | .next=>∃ σ' H',Inv X pins σ' H' s'/\D.nx σ' H'
 | .brk=>∃ σ' H',Inv X pins σ' H' s'/\D.bk σ' H'
 | .cont=>∃ σ' H',Inv X pins σ' H' s'/\D.ct σ' H'
 | .ret u=>∃v σ' H',Inv X pins σ' H' s'/\RelV v u/\D.rt v H'
def PE (X:Cx)(e:Expr)(t:TE):Prop :=
 ∀(pins:List (Addr×Obj)) (s:Shared) (σ:St) (H:Hp) (Q:VK),Inv X pins σ H s->t σ H Q->wpAny (model X.prog X.w) X.A (eval e X.env) (EP X pins σ Q) X.xe s
def PT (X:Cx)(e:Expr)(t:TT):Prop :=
 ∀(pins:List (Addr×Obj)) (s:Shared) (σ:St) (H:Hp) (Q:Bool->Hp->Prop),Inv X pins σ H s->t σ H Q->wpAny (model X.prog X.w) X.A (isTrue e X.env (eval e X.env)) (TP X pins σ Q) X.xe s
def PW (X:Cx)(e:Expr)(t:TT):Prop :=
 ∀(whole:Sem Value) (pins:List (Addr×Obj)) (s:Shared) (σ:St) (H:Hp) (Q:Bool->Hp->Prop),Inv X pins σ H s->t σ H Q->wpAny (model X.prog X.w) X.A (isTrue e X.env whole) (TP X pins σ Q) X.xe s
theorem PW.pt {X:Cx}{e:Expr}{t:TT}(h:PW X e t):PT X e t:=h _
def PA (X:Cx)(es:List Expr)(t:TA):Prop :=
 ∀(pos:Pos) (pins:List (Addr×Obj)) (s:Shared) (σ:St) (H:Hp) (Q:List V->Hp->Prop),Inv X pins σ H s->t σ H Q->wpAny (model X.prog X.w) X.A (spliced (backTo pos (starEach es X.env))) (AP X pins σ Q) X.xe s
def PS (X:Cx)(st:Stmt)(t:TS):Prop :=
 ∀(pins:List (Addr×Obj)) (s:Shared) (σ:St) (H:Hp) (D:Ends),Inv X pins σ H s->t D σ H->wpAny (model X.prog X.w) X.A (exec st X.env) (SP X pins D) X.xe s
def PSs (X:Cx)(st:List Stmt)(t:TS):Prop :=
 ∀(pins:List (Addr×Obj)) (s:Shared) (σ:St) (H:Hp) (D:Ends),Inv X pins σ H s->t D σ H->wpAny (model X.prog X.w) X.A (execs st X.env) (SP X pins D) X.xe s
theorem wM {α:Type}{t:Sem α}{Q Q':α->Shared->Prop}{M:Model}{A:Around}{E:Value->Shared->Prop}{s:Shared}(h:wpAny M A t Q E s)(hQ:∀a s,Q a s->Q' a s):wpAny M A t Q' E s:=wpAny_mono h hQ fun _ _ x=>x
section
variable {X:Cx}
theorem bin {a b:Expr}{ta tb:TE}(ha:PE X a ta)(hb:PE X b tb){pins:List (Addr×Obj)}{s:Shared}{σ:St}{H:Hp}{R:V->V->Hp->Prop}(I:Inv X pins σ H s)(h:ta σ H fun x H1=>tb σ H1 fun y H2=>R x y H2)
  {α:Type}{Q:α->Shared->Prop}{f:Value->Value->Sem α}
  (hf:∀v u s2 x y H2,Inv X pins σ H2 s2->RelV x v->RelV y u->R x y H2->wpAny (model X.prog X.w) X.A (f v u) Q X.xe s2) :
  wpAny (model X.prog X.w) X.A (eval a X.env) (fun v s₁=>wpAny (model X.prog X.w) X.A (eval b X.env) (fun u s₂=>wpAny (model X.prog X.w) X.A (f v u) Q X.xe s₂) X.xe s₁) X.xe s:=by
 refine wM (ha pins s σ H _ I h) fun v s1 ⟨x,H1,I1,r1,q1⟩=>?_
 refine wM (hb pins s1 σ H1 _ I1 q1) fun u s2 ⟨y,H2,I2,r2,q2⟩=>?_
 exact hf v u s2 x y H2 I2 r1 r2 q2
inductive Sg (i:Nat)(σ:St)(H:Hp)(Q:V->Hp->Prop):Prop
 | mk (v:V) (_:σ[i]?=some (some v)) (_:Q v H):Sg i σ H Q
def tC (v:V):TE:=fun _ H Q=>Q v H
theorem zmk {i:Nat}{x:Str}{pos:Pos}(hN:X.N[i]?=some x)(hv:Vis X.env.scope x)(hd:(x==("__debug__" : Str))=false:=by decide)(hcd:(x==("__classdict__" : Str))=false:=by decide):PE X (.Name x pos) (Sg i):=by
 intro pins s σ H Q I h
 obtain⟨v,e,h⟩:=h
 obtain⟨m,hn,hl⟩:=I.loc
 obtain⟨u,r,l⟩:=hl i x v hN e hv
 have fin:EP X pins σ Q u s:=⟨v,H,I,r,h⟩
 rcases l with ⟨hk,hm⟩ | ⟨hk,c,hc,hcell⟩
 ·exact wpAny_Name (wpAny_loadName_local I.ok.kind hk hn hm fin) hd
 ·rcases hk with hk | hk
  ·exact wpAny_Name (wpAny_loadName_cell I.ok.kind hk hc hcell fin) hd
  ·exact wpAny_Name (wpAny_loadName_free I.ok.kind hk hc hcell fin hcd) hd
theorem zx {i j pos}:PE X (.Constant (.int i) j pos) (tC (.int i)):=fun _ _ _ H _ I h=>wpAny_Constant_int ⟨.int i,H,I.tok _,⟨_,rfl⟩,h⟩
theorem wN {b j pos}:PE X (.Constant (.bool b) j pos) (tC (.bl b)):=fun _ _ _ H _ I h=>Constant_bool ⟨.bl b,H,I,rfl,h⟩
theorem zZ {x j pos}:PE X (.Constant (.str x) j pos) (tC (.str x)):=fun _ _ _ H _ I h=>Calls.Constant_str ⟨.str x,H,I.tok _,⟨_,rfl⟩,h⟩
def Gl (X:Cx)(x:Str):Prop:=X.env.kindOf x=some .globalImplicit
theorem zcL {E:Value->Shared->Prop}{pins:List (Addr×Obj)}{s:Shared}{σ:St}{H:Hp}{x:Str}{u:Value}{pos:Pos}{Q:Value->Shared->Prop}(I:Inv X pins σ H s)(hg:Gl X x)(hm:X.mg x=some u)(h:Q u s)
  (hd:(x==("__debug__" : Str))=false:=by decide):wpAny (model X.prog X.w) X.A (eval (.Name x pos) X.env) Q E s :=
 Calls.Name_function_global I.ok.kind hg (Calls.loadGlobal_global (by rw[I.ok.glob];exact I.mod.glob.keeps I.bk) hm h) hd
theorem Wc {E:Value->Shared->Prop}{pins:List (Addr×Obj)}{s:Shared}{σ:St}{H:Hp}{x:Str}{u:Value}{pos:Pos}{Q:Value->Shared->Prop}(I:Inv X pins σ H s)(hg:Gl X x)(hm:X.mg x=none)(hv:bootBuiltins x=some u)(h:Q u s)
  (hn:x ≠ "__name__" := by decide)(hd:(x==("__debug__" : Str))=false:=by decide):wpAny (model X.prog X.w) X.A (eval (.Name x pos) X.env) Q E s:=by
 obtain⟨mb,h1,h2⟩:=I.mod.blt
 exact Calls.Name_function_global I.ok.kind hg (Calls.loadGlobal_builtin (by rw[I.ok.glob];exact I.mod.glob.keeps I.bk) hm (by rw[I.ok.blt];exact h1.keeps I.bk) ((h2 x hn).trans hv) h) hd
theorem W8 {x:Str}{v:V}{u:Value}{pos:Pos}(hg:Gl X x)(hm:X.mg x=some u)(r:RelV v u)(hd:(x==("__debug__" : Str))=false:=by decide):PE X (.Name x pos) (tC v) :=
 fun _ _ _ H _ I h=>zcL I hg hm ⟨v,H,I,r,h⟩ hd
theorem W9 {x:Str}{v:V}{u:Value}{pos:Pos}(hg:Gl X x)(hm:X.mg x=none)(hv:bootBuiltins x=some u)(r:RelV v u)(hn:x ≠ "__name__" := by decide)(hd:(x==("__debug__" : Str))=false:=by decide):PE X (.Name x pos) (tC v) :=
 fun _ _ _ H _ I h=>Wc I hg hm hv ⟨v,H,I,r,h⟩ hn hd
variable {a b:Expr}{ta tb:TE}{pos:Pos}
def PC (X:Cx)(op:CmpOp)(a b:Expr)(t:TE):Prop :=
 ∀(pins:List (Addr×Obj)) (s:Shared) (σ:St) (H:Hp) (Q:VK),Inv X pins σ H s->t σ H Q ->
  wpAny (model X.prog X.w) X.A (eval a X.env) (fun v s₁=>wpAny (model X.prog X.w) X.A (eval b X.env) (fun u s₂=>wpAny (model X.prog X.w) X.A (compareOp op v u) (EP X pins σ Q) X.xe s₂) X.xe s₁) X.xe s
def tB (t:TE):TT:=fun σ H Q=>t σ H fun x H1=>∃c,x=.bl c/\Q c H1
theorem zml {op:CmpOp}{t:TE}(h:PC X op a b t)(h1:behindInMarks op b=false:=by first | exact znl _ (by decide) (by decide) | rfl):PT X (.Compare a [op] [b] pos) (tB t):=by
 intro pins s σ H Q I hw
 refine wpAny_isTrue_Compare1 (wM (h pins s σ H _ I hw) fun v s1 h1=>wM h1 fun u s2 h2=>wM h2 fun c s3 ⟨x,H1,I1,r1,q1⟩=>?_) h1
 obtain⟨d,rfl,q⟩:=q1
 cases r1
 exact wpAny_truthy_bool ⟨H1,I1,q⟩
variable {tA tB':TT}{rest:List Expr}
def zo4 (t u:TT):TT:=fun σ H Q=>t σ H fun c H1=>if c=true then u σ H1 Q else Q false H1
def tOr (t u:TT):TT:=fun σ H Q=>t σ H fun c H1=>if c=true then Q true H1 else u σ H1 Q
def zo5 (t:TT):TT:=fun σ H Q=>t σ H fun c H1=>Q (!c) H1
theorem zgF (ha:PT X a tA):PW X (.BoolOp .And [a] pos) tA:=by
 intro wh pins s σ H Q I h
 refine isTrue_and (wM (ha pins s σ H Q I h) fun c s1 e=>?_)
 cases c with
 | true=>exact isTrue_and_nil e
 | false=>exact e
theorem Wd (ha:PT X a tA):PW X (.BoolOp .Or [a] pos) tA:=by
 intro wh pins s σ H Q I h
 refine isTrue_or (wM (ha pins s σ H Q I h) fun c s1 e=>?_)
 cases c with
 | false=>exact isTrue_or_nil e
 | true=>exact e
theorem ziA (ha:PT X a tA)(hb:PW X (.BoolOp .And (b::rest) pos) tB'):PW X (.BoolOp .And (a::b::rest) pos) (zo4 tA tB'):=by
 intro wh pins s σ H Q I h
 refine isTrue_and (wM (ha pins s σ H _ I h) fun c s1 ⟨H1,I1,q1⟩=>?_)
 cases c with
 | true=>exact hb wh pins s1 σ H1 Q I1 q1
 | false=>exact⟨H1,I1,q1⟩
theorem Va (ha:PT X a tA)(hb:PW X (.BoolOp .Or (b::rest) pos) tB'):PW X (.BoolOp .Or (a::b::rest) pos) (tOr tA tB'):=by
 intro wh pins s σ H Q I h
 refine isTrue_or (wM (ha pins s σ H _ I h) fun c s1 ⟨H1,I1,q1⟩=>?_)
 cases c with
 | true=>exact⟨H1,I1,q1⟩
 | false=>exact hb wh pins s1 σ H1 Q I1 q1
theorem vD (ha:PT X a tA):PT X (.UnaryOp .Not a pos) (zo5 tA):=by
 intro pins s σ H Q I h
 exact isTrue_not (ha pins s σ H (fun c H1=>Q (!c) H1) I h)
def znm (ta tb:TE):TE:=fun σ H Q=>ta σ H fun x H1=>∃c,x=.bl c/\if c=true then tb σ H1 Q else Q (.bl false) H1
def znn (ta:TE):TE:=fun σ H Q=>ta σ H fun x H1=>∃c,x=.bl c/\Q (.bl (!c)) H1
theorem Pn {op}{t:TE}(h:PE X a t):PE X (.BoolOp op [a] pos) t:=fun pins s σ H Q I hw=>BoolOp_one (h pins s σ H Q I hw)
theorem Sh (ha:PE X a ta)(hb:PE X (.BoolOp .And (b::rest) pos) tb):PE X (.BoolOp .And (a::b::rest) pos) (znm ta tb):=by
 intro pins s σ H Q I h
 refine BoolOp_and (wM (ha pins s σ H _ I h) fun v s1 ⟨x,H1,I1,r1,q1⟩=>?_)
 obtain⟨c,rfl,q1⟩:=q1
 cases r1
 refine wpAny_truthy_bool ?_
 cases c with
 | true=>exact hb pins s1 σ H1 Q I1 q1
 | false=>exact⟨.bl false,H1,I1,rfl,q1⟩
theorem ziB (ha:PE X a ta):PE X (.UnaryOp .Not a pos) (znn ta):=by
 intro pins s σ H Q I h
 refine UnaryOp_ (wM (ha pins s σ H _ I h) fun v s1 ⟨x,H1,I1,r1,q1⟩=>?_)
 obtain⟨c,rfl,q1⟩:=q1
 cases r1
 exact not_of (wpAny_truthy_bool ⟨.bl (!c),H1,I1,rfl,q1⟩)
def tIf (t:TT)(ta tb:TE):TE:=fun σ H Q=>t σ H fun c H1=>if c=true then ta σ H1 Q else tb σ H1 Q
theorem NT {c:Expr}(hc:PT X c tA)(ha:PE X a ta)(hb:PE X b tb):PE X (.IfExp c a b pos) (tIf tA ta tb):=by
 intro pins s σ H Q I h
 refine wpAny_IfExp (wM (hc pins s σ H _ I h) fun d s1 ⟨H1,I1,q1⟩=>?_)
 cases d with
 | true=>exact ha pins s1 σ H1 Q I1 q1
 | false=>exact hb pins s1 σ H1 Q I1 q1
end
def zP (K:Frag)(H:Hp)(a:Addr)(xs:List V):Prop :=
 Rd H a (.lst xs) \/
  ∃(o:Obj) (its:Array Value) (n:Nat),K.lookup a=some o/\o.cls=.type "list" /\ o.dict=none/\o.data=.seq its n/\its.size<=sizeLine/\Vals xs its.toList
def wG (K:Frag)(H:Hp)(a:Addr)(xs:List V):Prop :=
 Rd H a (.tup xs) \/
  ∃(o:Obj) (its:Array Value) (n:Nat),K.lookup a=some o/\o.cls=.type "tuple" /\ o.data=.seq its n/\its.size<=sizeLine/\Vals xs its.toList
def zbs:Value->Option V
 | .none=>some .non
 | .bool b=>some (.bl b)
 | .int i _=>some (.int i)
 | .str x _=>some (.str x)
 | .bytes b _=>some (.byt b)
 | .float b _=>some (.flt b)
 | .ref a=>some (.ref a)
 | .type n=>some (.ty n)
 | _=>none
theorem RelV.abs {x:V}{u:Value}(r:RelV x u):zbs u=some x:=by
 cases x with
 | non=>cases r;rfl
 | bl _=>cases r;rfl
 | int _=>obtain⟨t,rfl⟩:=r;rfl
 | str _=>obtain⟨t,rfl⟩:=r;rfl
 | byt _=>obtain⟨t,rfl⟩:=r;rfl
 | flt _=>obtain⟨t,rfl⟩:=r;rfl
 | ref _=>cases r;rfl
 | ty _=>cases r;rfl
theorem RelV.inj {x y:V}{u:Value}(r:RelV x u)(q:RelV y u):x=y:=ztX (r.abs.symm.trans q.abs)
theorem Vals.inj:∀{xs ys:List V} {us:List Value},Vals xs us->Vals ys us->xs=ys
 | _,_,_,.nil,.nil=>rfl
 | _,_,_,.cons r t,.cons r' t'=>by rw[r.inj r',Vals.inj t t']
section
variable {X:Cx}{pins:List (Addr×Obj)}{σ:St}{H:Hp}{s:Shared}{a:Addr}{xs ys:List V}
theorem zP.of {K:Frag}(h:H a=some (.lst xs)):zP K H a xs:=.inl (.inl h)
theorem wG.of {K:Frag}(h:H a=some (.tup xs)):wG K H a xs:=.inl (.inl h)
theorem Inv.list (I:Inv X pins σ H s)(h:zP X.K H a xs):∃its:List Value,Vals xs its/\PlainL s.heap a its.toArray/\xs.length<=sizeLine:=by
 rcases h with h | ⟨o,its,n,hk,hc,hd,hs,hz,r⟩
 ·obtain⟨z,its,n,r,e⟩:=h.ok I.hok
  exact⟨its,r,⟨_,n,e,rfl,rfl,rfl⟩,z⟩
 ·refine⟨its.toList,r,⟨o,n,I.Ln a o hk,hc,hd,by simpa using hs⟩,?_⟩
  have e:=r.length
  simp only[Array.length_toList] at e
  omega
theorem Inv.tuple (I:Inv X pins σ H s)(h:wG X.K H a xs):∃its:List Value,Vals xs its/\IsTup s.heap a its.toArray/\xs.length<=sizeLine:=by
 rcases h with h | ⟨o,its,n,hk,hc,hs,hz,r⟩
 ·obtain⟨z,its,r,p⟩:=h.ok I.hok
  exact⟨its,r,p,z⟩
 ·refine⟨its.toList,r,⟨o,I.Ln a o hk,hc,n,by simpa using hs⟩,?_⟩
  have e:=r.length
  simp only[Array.length_toList] at e
  omega
theorem Inv.Wf (I:Inv X pins σ H s)(h:zP X.K H a xs)(h':zP X.K H a ys):xs=ys:=by
 obtain⟨its,r,⟨o,n,e,_,_,d⟩,_⟩:=I.list h
 obtain⟨its',r',⟨o',n',e',_,_,d'⟩,_⟩:=I.list h'
 rw[e] at e';cases e'
 rw[d] at d'
 injection d' with d1 _
 have:its=its':=by simpa using congrArg Array.toList d1
 subst this
 exact r.inj r'
theorem Inv.zbW (I:Inv X pins σ H s)(h:wG X.K H a xs)(h':wG X.K H a ys):xs=ys:=by
 obtain⟨its,r,⟨o,e,_,n,d⟩,_⟩:=I.tuple h
 obtain⟨its',r',⟨o',e',_,n',d'⟩,_⟩:=I.tuple h'
 rw[e] at e';cases e'
 rw[d] at d'
 injection d' with d1 _
 have:its=its':=by simpa using congrArg Array.toList d1
 subst this
 exact r.inj r'
end
abbrev Cx.wish (X:Cx)(E:Value->Shared->Prop):Cx:={ X with xe:=E }
abbrev Cx.nox (X:Cx):Cx:=X.wish fun _ _=>False
theorem Cx.Ok.wish {X:Cx}(ok:X.Ok)(E:Value->Shared->Prop):(X.wish E).Ok :=
 ⟨ok.mod,ok.kind,ok.glob,ok.blt,ok.above,ok.inj,ok.has,ok.cab,ok.hd,ok.frames,ok.stk,ok.exf,ok.bs,ok.bsz,ok.zhy,ok.zhz,ok.Lk,ok.frf⟩
theorem Cx.Ok.Sq {X:Cx}{E:Value->Shared->Prop}(ok:(X.wish E).Ok):X.Ok :=
 ⟨ok.mod,ok.kind,ok.glob,ok.blt,ok.above,ok.inj,ok.has,ok.cab,ok.hd,ok.frames,ok.stk,ok.exf,ok.bs,ok.bsz,ok.zhy,ok.zhz,ok.Lk,ok.frf⟩
section
variable {X:Cx}{pins:List (Addr×Obj)}{σ:St}{H:Hp}{s:Shared}{E:Value->Shared->Prop}
theorem Inv.wish (I:Inv X pins σ H s)(E:Value->Shared->Prop):Inv (X.wish E) pins σ H s:=⟨I.ok.wish E,I.os,I.bare,I.base,I.loc,I.cell,I.free,I.Tz,I.pin,I.hok,I.len⟩
theorem Inv.Sq (I:Inv (X.wish E) pins σ H s):Inv X pins σ H s:=⟨I.ok.Sq,I.os,I.bare,I.base,I.loc,I.cell,I.free,I.Tz,I.pin,I.hok,I.len⟩
theorem SP.Sq {D:Ends}{f:Flow}{s':Shared}(h:SP (X.wish E) pins D f s'):SP X pins D f s':=by
 cases f with
 | next=>obtain⟨σ',H',I,q⟩:=h;exact⟨σ',H',I.Sq,q⟩
 | brk=>obtain⟨σ',H',I,q⟩:=h;exact⟨σ',H',I.Sq,q⟩
 | cont=>obtain⟨σ',H',I,q⟩:=h;exact⟨σ',H',I.Sq,q⟩
 | ret u=>obtain⟨v,σ',H',I,r,q⟩:=h;exact⟨v,σ',H',I.Sq,r,q⟩
theorem PSs.nox {st:List Stmt}{t:TS}(h:PSs X.nox st t):PSs X st t:=fun pins s σ H D I hw =>
 wpAny_mono (h pins s σ H D (I.wish _) hw) (fun _ _ q=>q.Sq) fun _ _ z=>False.elim z
end
section
variable {X:Cx}{st:Stmt}{rest:List Stmt}{t u:TS}{e:Expr}{te:TE}{pos:Pos}
def zno:TS:=fun D σ H=>D.nx σ H
def zo6 (t u:TS):TS:=fun D σ H=>t { D with nx:=u D } σ H
theorem zU:PSs X [] zno:=fun _ _ σ H _ I h=>wpAny_execs_nil ⟨σ,H,I,h⟩
theorem zj (h1:PS X st t)(h2:PSs X rest u):PSs X (st::rest) (zo6 t u):=by
 intro pins s σ H D I h
 refine wpAny_execs_cons (wM (h1 pins s σ H { D with nx:=u D } I h) fun f s1 q=>?_)
 cases f with
 | next =>
  obtain⟨σ',H',I',q⟩:=q
  exact h2 pins s1 σ' H' D I' q
 | ret v=>exact q
 | brk=>exact q
 | cont=>exact q
theorem zm (h1:PS X st t):PSs X [st] t:=by
 intro pins s σ H D I h
 refine wpAny_execs_cons (wM (h1 pins s σ H D I h) fun f s1 q=>?_)
 cases f with
 | next=>exact wpAny_execs_nil q
 | ret v=>exact q
 | brk=>exact q
 | cont=>exact q
theorem Inv.quiet {pins:List (Addr×Obj)}{σ:St}{H:Hp}{s:Shared}(I:Inv X pins σ H s):interactive X.env=false:=by simp[interactive,I.ok.kind]
def znp (te:TE):TS:=fun D σ H=>te σ H fun _ H1=>D.nx σ H1
theorem yu (he:PE X e te)(hs:swapsWith e none pos.line X.env=pure false:=by rfl):PS X (.Expr e pos) (znp te):=by
 intro pins s σ H D I h
 exact wpAny_Expr_any (wM (he pins s σ H _ I h) fun v s1 ⟨x,H1,I1,r1,q1⟩=>⟨σ,H1,I1,q1⟩) I.quiet hs
def zo7 (te:TE):TS:=fun D σ H=>te σ H D.rt
theorem zG (he:PE X e te):PS X (.Return (some e) pos) (zo7 te):=by
 intro pins s σ H D I h
 exact wpAny_Return_some (wM (he pins s σ H _ I h) fun v s1 ⟨x,H1,I1,r1,q1⟩=>⟨x,σ,H1,I1,r1,q1⟩)
def zo8 (c:TT)(t u:TS):TS:=fun D σ H=>c σ H fun b H1=>if b=true then t D σ H1 else u D σ H1
theorem yr {c:Expr}{a b:List Stmt}{tc:TT}(hc:PT X c tc)(ha:PSs X a t)(hb:PSs X b u):PS X (.If c a b pos) (zo8 tc t u):=by
 intro pins s σ H D I h
 refine wpAny_If (wM (hc pins s σ H _ I h) fun d s1 ⟨H1,I1,q1⟩=>?_)
 cases d with
 | true=>exact ha pins s1 σ H1 D I1 q1
 | false=>exact hb pins s1 σ H1 D I1 q1
def zmm:TS:=fun _ _ _=>False
theorem Ss:PS X st zmm:=fun _ _ _ _ _ _ h=>h.elim
end
abbrev TG:=V->St->Hp->(St->Hp->Prop)->Prop
abbrev TGs:=List V->St->Hp->(St->Hp->Prop)->Prop
def PG (X:Cx)(target:Expr)(t:TG):Prop :=
 ∀(pins:List (Addr×Obj)) (s:Shared) (σ:St) (H:Hp) (v:V) (u:Value) (Q:St->Hp->Prop),Inv X pins σ H s->RelV v u->t v σ H Q ->
  wpAny (model X.prog X.w) X.A (assign target X.env u) (fun _ s'=>∃ σ' H',Inv X pins σ' H' s'/\Q σ' H') X.xe s
def PGs (X:Cx)(ts:List Expr)(t:TGs):Prop :=
 ∀(pins:List (Addr×Obj)) (s:Shared) (σ:St) (H:Hp) (vs:List V) (us:List Value) (Q:St->Hp->Prop),Inv X pins σ H s->Vals vs us->t vs σ H Q ->
  wpAny (model X.prog X.w) X.A (assignInOrder ((assignEach ts X.env).map (·.2)) us) (fun _ s'=>∃ σ' H',Inv X pins σ' H' s'/\Q σ' H') X.xe s
abbrev TIp:=V->V->Hp->VK->Prop
def PIp (X:Cx)(op:Operator)(t:TIp):Prop :=
 ∀(pins:List (Addr×Obj)) (s:Shared) (σ:St) (H:Hp) (x y:V) (v u:Value) (Q:VK),Inv X pins σ H s->RelV x v->RelV y u->t x y H Q ->
  wpAny (model X.prog X.w) X.A (inplaceOp op v u) (EP X pins σ Q) X.xe s
section
variable {X:Cx}{pos:Pos}
def Yg (i:Nat):TG:=fun v σ H Q=>Q (σ.set i (some v)) H
theorem z9 {i:Nat}{x:Str}(hN:X.N.Nodup)(hi:X.N[i]?=some x)(hx:Loc X.env.scope x)(hf:X.fn x=true\/X.env.scope.names.lookup x=some .local:=by first | exact .inl rfl | exact .inr rfl | assumption):PG X (.Name x pos) (Yg i):=by
 intro pins s σ H v u Q I r h
 exact wpAny_assign_Name (zai I hN hi hx r (fun s' I'=>⟨_,H,I',h⟩) hf)
def zfs:TGs:=fun vs σ H Q=>vs=[]/\Q σ H
def VR (t:TG)(u:TGs):TGs:=fun vs σ H Q=>∃v r,vs=v::r/\t v σ H fun σ' H'=>u r σ' H' Q
theorem JX:PGs X [] zfs:=by
 intro pins s σ H vs us Q I r h
 obtain⟨e,h⟩:=h
 subst e
 cases r
 exact assignInOrder_nil ⟨σ,H,I,h⟩
theorem Y7 {e:Expr}{es:List Expr}{t:TG}{u:TGs}(h1:PG X e t)(h2:PGs X es u)
  (hs:(assignEach (e::es) X.env).map (·.2)=assign e X.env::(assignEach es X.env).map (·.2):=by rfl):PGs X (e::es) (VR t u):=by
 intro pins s σ H vs us Q I r h
 obtain⟨v,vr,e1,h⟩:=h
 subst e1
 cases r with
 | cons r rr =>
  rw[hs]
  refine assignInOrder_cons (wM (h1 pins s σ H _ _ _ I r h) fun _ s1 ⟨σ1,H1,I1,q1⟩=>?_)
  exact h2 pins s1 σ1 H1 _ _ Q I1 rr q1
def zft (K:Frag)(n:Nat)(t:TGs):TG:=fun v σ H Q=>∃a xs,v=.ref a/\wG K H a xs/\xs.length=n/\t xs σ H Q
theorem zcM {es:List Expr}{k:Nat}{t:TGs}{n:Nat}(hc:X.calm=true)(h:PGs X es t)
  (hn:(assignEach es X.env).length=n:=by rfl)(hst:(assignEach es X.env).findIdx? (·.1)=none:=by rfl):PG X (.Tuple es k pos) (zft X.K n t):=by
 intro pins s σ H v u Q I r hw
 obtain⟨a,xs,e1,hq,hl,hw⟩:=hw
 subst e1
 cases r
 obtain⟨its,rv,ht,hz⟩:=I.tuple hq
 refine assign_Tuple_tuple (I.ok.hd hc) ht (by simp[hn,<-hl,rv.length]) hst fun h' hx=>?_
 have I1:Inv X pins σ H { s with heap:=h' }:=I.kept (t':=s.toks) fun b o e=>hx b o (ztH (ztz e)) e
 exact h pins _ σ H xs _ Q I1 (by simpa using rv) hw
def zko (te:TE)(g:TG):TS:=fun D σ H=>te σ H fun x H1=>g x σ H1 D.nx
theorem zmo {tg e:Expr}{te:TE}{g:TG}(he:PE X e te)(hg:PG X tg g)(hs:swapsWithSole [tg] e pos.line X.env=pure false:=by rfl)(hw:swappedStores [tg] e X.env=pure none:=by rfl)
  (h1:(assignEach [tg] X.env).map (·.2)=[assign tg X.env]:=by rfl):PS X (.Assign [tg] e pos) (zko te g):=by
 intro pins s σ H D I h
 refine wpAny_Assign_stores (wM (he pins s σ H _ I h) fun v s1 ⟨x,H1,I1,r1,q1⟩=>?_) hs hw
 rw[h1]
 exact wM (hg pins s1 σ H1 x v _ I1 r1 q1) fun _ s2 q=>q
theorem Lp {i:Nat}{x:Str}{e:Expr}{te:TE}{pos':Pos}(hN:X.N.Nodup)(hi:X.N[i]?=some x)(hx:Loc X.env.scope x)(he:PE X e te)(hs:swapsWith e (some (.Name x pos')) pos.line X.env=pure false:=by rfl)(hf:X.fn x=true\/X.env.scope.names.lookup x=some .local:=by first | exact .inl rfl | exact .inr rfl | assumption) :
  PS X (.Assign [.Name x pos'] e pos) (zko te (Yg i)):=by
 intro pins s σ H D I h
 refine wpAny_Assign_Name (wM (he pins s σ H _ I h) fun v s1 ⟨y,H1,I1,r1,q1⟩=>?_) hs
 exact zai I1 hN hi hx r1 (fun s2 I2=>⟨_,H1,I2,q1⟩) hf
def zpa (i:Nat)(te:TE)(ti:TIp):TS:=fun D σ H=>∃x,σ[i]?=some (some x)/\te σ H fun y H1=>ti x y H1 fun z H2=>D.nx (σ.set i (some z)) H2
theorem zfu {i:Nat}{x:Str}{e:Expr}{te:TE}{op:Operator}{ti:TIp}{pos':Pos}(hN:X.N.Nodup)(hi:X.N[i]?=some x)(hx:Loc X.env.scope x)(he:PE X e te)(ho:PIp X op ti)(hf:X.fn x=true\/X.env.scope.names.lookup x=some .local:=by first | exact .inl rfl | exact .inr rfl | assumption) :
  PS X (.AugAssign (.Name x pos') op e pos) (zpa i te ti):=by
 intro pins s σ H D I h
 obtain⟨v,e1,h⟩:=h
 obtain⟨m,hn,hl⟩:=I.loc
 have vis:Vis X.env.scope x:=by rcases hx with k | k;exact .inl k;exact .inr (.inl k)
 obtain⟨u,r,l⟩:=hl i x v hi e1 vis
 refine wpAny_AugAssign_Name ?_
 have go:wpAny (model X.prog X.w) X.A (eval e X.env) (fun w s₂=>wpAny (model X.prog X.w) X.A (inplaceOp op u w) (fun r s₃=>wpAny (model X.prog X.w) X.A (storeName X.env x r) (fun _=>SP X pins D .next) X.xe s₃) X.xe s₂) X.xe s:=by
  refine wM (he pins s σ H _ I h) fun w s1 ⟨y,H1,I1,r1,q1⟩=>?_
  refine wM (ho pins s1 σ H1 v y u w _ I1 r r1 q1) fun z s2 ⟨zv,H2,I2,r2,q2⟩=>?_
  exact zai I2 hN hi hx r2 (fun s3 I3=>⟨_,H2,I3,q2⟩) hf
 rcases l with ⟨hk,hm⟩ | ⟨hk,c,hc,hcell⟩
 ·exact wpAny_loadName_local I.ok.kind hk hn hm go
 ·rcases hk with hk | hk
  ·exact wpAny_loadName_cell I.ok.kind hk hc hcell go
  ·rcases hx with k | k
   ·have:X.env.scope.names.lookup x=some .free:=hk
    rw[k] at this;cases this
   ·have:X.env.scope.names.lookup x=some .free:=hk
    rw[k] at this;cases this
def zmp (c:TT)(tb:TS):TS:=fun D σ H=>∃W:Nat->St->Hp->Prop,(∃m,W m σ H)/\∀m σ H,W m σ H ->
 c σ H fun b H1=>if b=true then ∃N:St->Hp->Prop,(∀ σ' H',N σ' H'->∃m',m'<m/\W m' σ' H')/\tb { D with nx:=N,ct:=N,bk:=D.nx } σ H1 else D.nx σ H1
theorem zaj {c:Expr}{body:List Stmt}{tc:TT}{tb:TS}(hp:PassesOwn (model X.prog X.w) X.A X.env X.xe)(hc:PT X c tc)(hb:PSs X body tb):PS X (.While c body [] pos) (zmp tc tb):=by
 intro pins s σ H D I h
 obtain⟨W,⟨m0,w0⟩,turn⟩:=h
 refine wpAny_While (codeAny_whileLoop (fun n s'=>∃ σ' H',Inv X pins σ' H' s'/\W n σ' H') ?_ m0 ⟨σ,H,I,w0⟩)
 rintro n s1 ⟨σ1,H1,I1,w1⟩
 refine wpAny_passesOwn hp (wM (hc pins s1 σ1 H1 _ I1 (turn n σ1 H1 w1)) fun b s2 ⟨H2,I2,q2⟩=>?_)
 cases b with
 | true =>
  obtain⟨N,hN,q2⟩:=q2
  rw[if_pos rfl]
  refine wpAny_passesOwn hp (wM (hb pins s2 σ1 H2 _ I2 q2) fun f s3 q3=>?_)
  cases f with
  | next =>
   obtain⟨σ3,H3,I3,n3⟩:=q3
   obtain⟨m',hm,w3⟩:=hN σ3 H3 n3
   exact⟨m',hm,σ3,H3,I3,w3⟩
  | cont =>
   obtain⟨σ3,H3,I3,n3⟩:=q3
   obtain⟨m',hm,w3⟩:=hN σ3 H3 n3
   exact⟨m',hm,σ3,H3,I3,w3⟩
  | brk=>exact q3
  | ret v=>exact q3
 | false =>
  rw[if_neg ztw]
  exact wpAny_execs_nil ⟨σ1,H2,I2,q2⟩
end
structure It where
 go:Nat->Hp->Prop
 R7:Nat->Hp->V->Hp->Prop
 stop:Nat->Hp->Prop
def zbt (X:Cx)(pins:List (Addr×Obj))(H:Hp)(b:Addr):Prop :=
 H b=none/\b≠X.env.locals/\b∉X.fs/\(b∈X.ex\/X.s₀.heap.objs.size<=b)/\(∀x c,X.env.cells.lookup x=some c->c≠b)/\∀p∈X.pn++pins,p.1≠b
theorem Inv.zd7 {X:Cx}{pins:List (Addr×Obj)}{σ:St}{H H':Hp}{s:Shared}{b:Addr}(I:Inv X pins σ H s)(hb:s.heap.objs.size<=b)(hn:H' b=none):zbt X pins H' b:=by
 refine⟨hn,Nat.ne_of_gt (ztB I.lt hb),I.zmi hb,.inr (ztO I.sz hb),fun x c e z=>?_,fun p hp z=>?_⟩
 ·obtain⟨v,q⟩:=I.cell x c e
  exact absurd (ztB q.lt (by rw[z];exact hb)) (Nat.lt_irrefl _)
 ·exact absurd (ztB (ztz (I.pin p hp).1) (by rw[z];exact hb)) (Nat.lt_irrefl _)
abbrev Calm (X:Cx):Prop:=X.calm=true
structure Turn (P:Program)(w:World)(K:Frag)(tg:Expr)(J:It)(fp:List Addr)(it:Addr)(tn:Nat->Heap->Prop)(rd:Cx->Prop:=Calm):Prop where
 mem:it∈fp
 obj:∀i h,tn i h->∀b∈fp,∃o,h.get? b=some o/\∀v,o.data≠.cell v
 keep:∀i h h',tn i h->(∀b∈fp,∀o,h.get? b=some o->h'.get? b=some o)->tn i h'
 item:∀(X:Cx),X.prog=P->X.w=w->X.K=K->rd X->∀(i:Nat) (pins:List (Addr×Obj)) (s:Shared) (σ:St) (H:Hp) (E:Value->Shared->Prop),Inv X pins σ H s->(∀b∈fp,zbt X pins H b)->tn i s.heap->J.go i H ->
  wpAny (model P w) X.A (pyNext (.ref it)) (fun r s1=>∃u,r=some u /\
   wpAny (model P w) X.A (letOwnedTupleGo tg (.ref it) u) (fun _ s2=>∃x H',Inv X pins σ H' s2/\RelV x u/\J.R7 i H x H'/\tn (i+1) s2.heap/\∀b∈fp,H' b=none) E s1) E s
 done:∀(X:Cx),X.prog=P->X.w=w->X.K=K->rd X->∀(i:Nat) (pins:List (Addr×Obj)) (s:Shared) (σ:St) (H:Hp) (E:Value->Shared->Prop),Inv X pins σ H s->(∀b∈fp,zbt X pins H b)->tn i s.heap->J.stop i H ->
  wpAny (model P w) X.A (pyNext (.ref it)) (fun r s1=>r=none/\Inv X pins σ H s1) E s
 self:∀(A:Around) (i:Nat) (s:Shared) (Q:Value->Shared->Prop) (E:Value->Shared->Prop),tn i s.heap->Q (.ref it) s->wpAny (model P w) A (pyIter (.ref it)) Q E s
abbrev TI:=St->Hp->(It->Hp->Prop)->Prop
def znq (rd:Cx->Prop)(X:Cx)(pins:List (Addr×Obj))(σ:St)(tg:Expr)(R:It->Hp->Prop)(itv:Value)(s2:Shared):Prop :=
 ∃(it:Addr) (fp:List Addr) (tn:Nat->Heap->Prop) (J:It) (H':Hp),itv=.ref it/\Inv X pins σ H' s2/\Turn X.prog X.w X.K tg J fp it tn rd/\tn 0 s2.heap/\(∀b∈fp,zbt X pins H' b)/\R J H'
abbrev PIE:=znq Calm
def PIr (rd:Cx->Prop)(X:Cx)(tg iter:Expr)(wi:TI):Prop :=
 ∀(pins:List (Addr×Obj)) (s:Shared) (σ:St) (H:Hp) (R:It->Hp->Prop),Inv X pins σ H s->wi σ H R ->
  wpAny (model X.prog X.w) X.A (eval iter X.env) (fun v s1=>wpAny (model X.prog X.w) X.A (pyIter v) (znq rd X pins σ tg R) X.xe s1) X.xe s
abbrev PI:=PIr Calm
theorem zd8 {M:Model}{A:Around}{E:Value->Shared->Prop}{s:Shared}{tg:Expr}{it:Addr}{u:Value}{o:Obj}{n:String}{vs:Array Value}{Q:Unit->Shared->Prop}(ho:s.heap.get? it=some o)(hc:o.cls=.type n)(hd:o.data=.fields vs)
  (hn:["enumerate", "zip", "dict_itemiterator", "dict_reverseitemiterator", "odict_iterator", "itertools.zip_longest", "itertools.pairwise"].contains n=false)(hQ:Q () s):wpAny M A (letOwnedTupleGo tg (.ref it) u) Q E s:=by
 unfold letOwnedTupleGo
 cases tg<;>first
  | exact wpAny_pure hQ
  | (cases u<;>first
    | exact wpAny_pure hQ
    | (refine wpAny_bind (wpAny_load ho ?_)
       rw[hc,hd]
       show wpAny M A (if (["enumerate", "zip", "dict_itemiterator", "dict_reverseitemiterator", "odict_iterator", "itertools.zip_longest", "itertools.pairwise"].contains n&&vs[0]?==some (rawInt _))=true then _ else _) Q E s
       rw[if_neg (by intro h;rw[hn,Bool.false_and] at h;cases h)]
       exact wpAny_pure hQ))
def KZ (K:Frag)(a:Addr):It :=
 ⟨fun i H=>∃xs x,zP K H a xs/\xs[i]?=some x,fun i H x H'=>H'=H/\∀xs,zP K H a xs->xs[i]?=some x,fun i H=>∃xs,zP K H a xs/\xs.length<=i⟩
def Itt (K:Frag)(a:Addr):It :=
 ⟨fun i H=>∃xs x,wG K H a xs/\xs[i]?=some x,fun i H x H'=>H'=H/\∀xs,wG K H a xs->xs[i]?=some x,fun i H=>∃xs,wG K H a xs/\xs.length<=i⟩
def Itr (lo:Int)(n:Nat):It:=⟨fun i _=>i<n,fun i H x H'=>H'=H/\x=.int (lo+i),fun i _=>n<=i⟩
theorem zhC {P:Program}{w:World}{K:Frag}{tg:Expr}(a it:Addr):Turn P w K tg (KZ K a) [it] it (fun i h=>h.IsListIter it a i) where
 mem:=by simp
 obj:=fun i h st b hb=>by
  have e:b=it:=by simpa using hb
  subst e
  obtain⟨o,e,c,d⟩:=st
  exact⟨o,e,fun v z=>by rw[d] at z;cases z⟩
 keep:=fun i h h' st k=>st.at fun o e=>k it (by simp) o e
 item:=by
  intro X hP hw hK hc i pins s σ H E I hf st hg
  subst hP hw hK
  obtain⟨xs,x,hq,hx⟩:=hg
  obtain⟨its,rv,p,hz⟩:=I.list hq
  obtain⟨u,hu,ru⟩:=rv.get hx
  obtain⟨f0,f1,f2,f3,f4,f5⟩:=hf it (by simp)
  refine wpAny_pyNext_list_item st p.isList (x:=u) (by simpa using hu) fun h' st' sb=>?_
  have I1:Inv X pins σ H { s with heap:=h' }:=I.turned (t':=s.toks) (fun b o hb e=>(sb.2 b hb).trans e) f0 f1 f3 f4 f5
  obtain⟨o,e,c,d⟩:=id st'
  exact⟨u,rfl,zd8 (s:={ s with heap:=h' }) e c d (by decide) ⟨x,H,I1,ru,⟨rfl,fun ys hy=>by rw[I.Wf hy hq];exact hx⟩,st',fun b hb=>(hf b hb).1⟩⟩
 done:=by
  intro X hP hw hK hc i pins s σ H E I hf st hg
  subst hP hw hK
  obtain⟨xs,hq,hx⟩:=hg
  obtain⟨its,rv,p,hz⟩:=I.list hq
  obtain⟨f0,f1,f2,f3,f4,f5⟩:=hf it (by simp)
  have hl:=rv.length
  exact wpAny_pyNext_list_end (I.ok.hd hc) st p.isList (by simp;omega) fun h' eb=>⟨rfl,I.turned (t':=s.toks) (fun b o hb e=>eb b o hb e) f0 f1 f3 f4 f5⟩
 self:=fun _ _ _ _ _ st h=>wpAny_pyIter_listiter st h
theorem zfv {P:Program}{w:World}{K:Frag}{tg:Expr}(a it:Addr):Turn P w K tg (Itt K a) [it] it (fun i h=>h.IsTupleIter it a i) where
 mem:=by simp
 obj:=fun i h st b hb=>by
  have e:b=it:=by simpa using hb
  subst e
  obtain⟨o,e,c,d⟩:=st
  exact⟨o,e,fun v z=>by rw[d] at z;cases z⟩
 keep:=fun i h h' st k=>st.at fun o e=>k it (by simp) o e
 item:=by
  intro X hP hw hK hc i pins s σ H E I hf st hg
  subst hP hw hK
  obtain⟨xs,x,hq,hx⟩:=hg
  obtain⟨its,rv,p,hz⟩:=I.tuple hq
  obtain⟨u,hu,ru⟩:=rv.get hx
  obtain⟨f0,f1,f2,f3,f4,f5⟩:=hf it (by simp)
  refine wpAny_pyNext_tuple_item st (show s.heap.IsTuple a its.toArray from p) (x:=u) (by simpa using hu) fun h' st' sb=>?_
  have I1:Inv X pins σ H { s with heap:=h' }:=I.turned (t':=s.toks) (fun b o hb e=>(sb.2 b hb).trans e) f0 f1 f3 f4 f5
  obtain⟨o,e,c,d⟩:=id st'
  exact⟨u,rfl,zd8 (s:={ s with heap:=h' }) e c d (by decide) ⟨x,H,I1,ru,⟨rfl,fun ys hy=>by rw[I.zbW hy hq];exact hx⟩,st',fun b hb=>(hf b hb).1⟩⟩
 done:=by
  intro X hP hw hK hc i pins s σ H E I hf st hg
  subst hP hw hK
  obtain⟨xs,hq,hx⟩:=hg
  obtain⟨its,rv,p,hz⟩:=I.tuple hq
  obtain⟨f0,f1,f2,f3,f4,f5⟩:=hf it (by simp)
  have hl:=rv.length
  exact wpAny_pyNext_tuple_end (I.ok.hd hc) st (show s.heap.IsTuple a its.toArray from p) (by simp;omega) fun h' eb=>⟨rfl,I.turned (t':=s.toks) (fun b o hb e=>eb b o hb e) f0 f1 f3 f4 f5⟩
 self:=fun _ _ _ _ _ st h=>wpAny_pyIter_tupleiter st h
theorem zfw {P:Program}{w:World}{K:Frag}{tg:Expr}(it:Addr)(lo:Int)(n:Nat):Turn P w K tg (Itr lo n) [it] it (fun i h=>IsRangeIter h it (lo+(i:Nat)*1) ((n:Int)-(i:Nat)) 1) where
 mem:=by simp
 obj:=fun i h st b hb=>by
  have e:b=it:=by simpa using hb
  subst e
  exact⟨_,st,fun v z=>by
   have z':Data.fields _=Data.cell v:=z
   cases z'⟩
 keep:=fun i h h' st k=>k it (by simp) _ st
 item:=by
  intro X hP hw hK hc i pins s σ H E I hf st hg
  subst hP hw hK
  obtain⟨f0,f1,f2,f3,f4,f5⟩:=hf it (by simp)
  have W:=Walks.range (prog:=X.prog) (w:=X.w) (I.ok.hd hc) it lo 1 n
  refine W.item i s _ _ hg st fun v h' tk hv st' kk=>?_
  obtain⟨t,rfl⟩:=hv
  have I1:Inv X pins σ H { s with heap:=h',toks:=tk }:=I.turned (fun b o hb e=>kk b o (by simpa using hb) e) f0 f1 f3 f4 f5
  refine⟨_,rfl,zd8 (s:={ s with heap:=h',toks:=tk }) (n := "range_iterator") st' rfl rfl (by decide) ⟨.int (lo+i),H,I1,⟨t,?_⟩,⟨rfl,rfl⟩,st',fun b hb=>(hf b hb).1⟩⟩
  rw[Int.mul_one]
 done:=by
  intro X hP hw hK hc i pins s σ H E I hf st hg
  subst hP hw hK
  obtain⟨f0,f1,f2,f3,f4,f5⟩:=hf it (by simp)
  exact wpAny_pyNext_range_end (I.ok.hd hc) st (by have:n<=i:=hg;omega) fun h' eb=>⟨rfl,I.turned (t':=s.toks) (fun b o hb e=>eb b o hb e) f0 f1 f3 f4 f5⟩
 self:=fun _ _ _ _ _ st h=>wpAny_pyIter_rangeiter st h
section
variable {X:Cx}{tg:Expr}
def znr (K:Frag)(tl:TE):TI:=fun σ H R=>tl σ H fun x H1=>∃a,x=.ref a/\(∃xs,zP K H1 a xs)/\R (KZ K a) H1
def zpb (K:Frag)(tl:TE):TI:=fun σ H R=>tl σ H fun x H1=>∃a,x=.ref a/\(∃xs,wG K H1 a xs)/\R (Itt K a) H1
theorem yh {l:Expr}{tl:TE}(hl:PE X l tl):PI X tg l (znr X.K tl):=by
 intro pins s σ H R I h
 refine wM (hl pins s σ H _ I h) fun v s1 ⟨x,H1,I1,r1,q1⟩=>?_
 obtain⟨a,e,⟨xs,hq⟩,q⟩:=q1
 subst e
 cases r1
 obtain⟨its,rv,p,hz⟩:=I1.list hq
 refine wpAny_pyIter_list p.isList ?_
 refine⟨s1.heap.objs.size,[s1.heap.objs.size],_,_,H1,rfl,I1.kept (t':=s1.toks) fun b o e=>zty _ e,zhC a _,⟨_,ztN _ rfl,rfl,rfl⟩,fun b hb=>?_,q⟩
 have e:b=s1.heap.objs.size:=by simpa using hb
 subst e
 exact I1.zd7 (ztI _) (I1.hok.fresh (ztI _))
theorem zcN {l:Expr}{tl:TE}(hl:PE X l tl):PI X tg l (zpb X.K tl):=by
 intro pins s σ H R I h
 refine wM (hl pins s σ H _ I h) fun v s1 ⟨x,H1,I1,r1,q1⟩=>?_
 obtain⟨a,e,⟨xs,hq⟩,q⟩:=q1
 subst e
 cases r1
 obtain⟨its,rv,p,hz⟩:=I1.tuple hq
 refine wpAny_pyIter_tuple (show s1.heap.IsTuple a its.toArray from p) ?_
 refine⟨s1.heap.objs.size,[s1.heap.objs.size],_,_,H1,rfl,I1.kept (t':=s1.toks) fun b o e=>zty _ e,zfv a _,⟨_,ztN _ rfl,rfl,rfl⟩,fun b hb=>?_,q⟩
 have e:b=s1.heap.objs.size:=by simpa using hb
 subst e
 exact I1.zd7 (ztI _) (I1.hok.fresh (ztI _))
theorem zea {pins:List (Addr×Obj)}{σ:St}{H:Hp}{s:Shared}{R:It->Hp->Prop}{E:Value->Shared->Prop}{lo hi:Int}{t u v:Tok}{tk:Nat}(I:Inv X pins σ H s)(h1:-(2^62)<=lo)(h2:lo<2^62)(h3:-(2^62)<=hi)(h4:hi<2^62)
  (q:R (Itr lo (hi-lo).toNat) H):wpAny (model X.prog X.w) X.A (pyIter (.ref s.heap.objs.size)) (PIE X pins σ tg R) E { s with heap:=s.heap.push { cls:=.type "range", data:=.fields #[.int lo t,.int hi u,.int 1 v] },toks:=tk }:=by
 refine wpAny_pyIter_range (IsRange.new ..) (small_one h1 h2 h3 h4) ?_
 have I1:Inv X pins σ H { s with heap:=s.heap.push { cls:=.type "range", data:=.fields #[.int lo t,.int hi u,.int 1 v] },toks:=tk }:=I.kept fun b o e=>zty _ e
 refine⟨(s.heap.push { cls:=.type "range", data:=.fields #[.int lo t,.int hi u,.int 1 v] }).objs.size,[(s.heap.push { cls:=.type "range", data:=.fields #[.int lo t,.int hi u,.int 1 v] }).objs.size],_,_,H,rfl,
  I1.kept (t':=tk) fun b o e=>zty _ e,zfw _ lo (hi-lo).toNat,?_,fun b hb=>?_,q⟩
 ·have e1:lo+((0:Nat):Int)*1=lo:=by simp
  have e2:(((hi-lo).toNat:Nat):Int)-((0:Nat):Int)=Builtin.Range.rangeSize lo hi 1:=by rw[rangeSize_one];split<;>omega
  show IsRangeIter _ _ (lo+((0:Nat):Int)*1) ((((hi-lo).toNat:Nat):Int)-((0:Nat):Int)) 1
  rw[e1,e2]
  exact ztN _ rfl
 ·have e:b=(s.heap.push { cls:=.type "range", data:=.fields #[.int lo t,.int hi u,.int 1 v] }).objs.size:=by simpa using hb
  subst e
  exact I1.zd7 (ztI _) (I1.hok.fresh (ztI _))
def zns (ta:TA):TI:=fun σ H R=>ta σ H fun vs H1=>∃j:Int,vs=[.int j]/\-(2^62)<=j/\j<2^62/\R (Itr 0 j.toNat) H1
def znt (ta:TA):TI:=fun σ H R=>ta σ H fun vs H1=>∃i j:Int,vs=[.int i,.int j]/\(-(2^62)<=i/\i<2^62/\-(2^62)<=j/\j<2^62)/\R (Itr i (j-i).toNat) H1
theorem Zq {a:Expr}{ta:TA}{p pos:Pos}(hg:Gl X "range")(hm:X.mg "range"=none)(ha:PA X [a] ta)(hs:starEach [a] X.env=[(false,eval a X.env)]:=by rfl):PI X tg (.Call (.Name "range" p) [a] [] pos) (zns ta):=by
 intro pins s σ H R I h
 refine Call_ (Wc I hg hm boot_range (PyProof.Rows.callWith_type1 (wM (ha pos pins s σ H _ I h) fun us s1 ⟨vs,H1,I1,r1,q1⟩=>?_) hs rfl))
 obtain⟨j,e,q1,q2,q⟩:=q1
 subst e
 cases r1 with
 | cons r rr =>
  cases rr
  obtain⟨t,rfl⟩:=r
  exact call_range_1 (zea I1 (by omega) (by omega) q1 q2 (by simpa using q))
theorem zbX {a b:Expr}{ta:TA}{p pos:Pos}(hg:Gl X "range")(hm:X.mg "range"=none)(ha:PA X [a,b] ta)(hs:starEach [a,b] X.env=[(false,eval a X.env),(false,eval b X.env)]:=by rfl)(hs2:starEach [b] X.env=[(false,eval b X.env)]:=by rfl) :
  PI X tg (.Call (.Name "range" p) [a,b] [] pos) (znt ta):=by
 intro pins s σ H R I h
 refine Call_ (Wc I hg hm boot_range (PyProof.Rows.callWith_type1 (wM (ha pos pins s σ H _ I h) fun us s1 ⟨vs,H1,I1,r1,q1⟩=>?_) (by rw[hs,hs2]) (by rw[hs2];rfl)))
 obtain⟨i,j,e,⟨q1,q2,q3,q4⟩,q⟩:=q1
 subst e
 cases r1 with
 | cons r rr =>
  cases rr with
  | cons r' rr =>
   cases rr
   obtain⟨t,rfl⟩:=r
   obtain⟨t',rfl⟩:=r'
   exact call_range_2 (zea I1 q1 q2 q3 q4 q)
def zpc (wi:TI)(g:TG)(tb:TS):TS:=fun D σ H=>wi σ H fun J H1=>∃W:Nat->Nat->St->Hp->Prop,(∃m,W 0 m σ H1)/\∀i m σ H,W i m σ H ->
 (J.stop i H/\D.nx σ H)\/(J.go i H/\∃N:St->Hp->Prop,(∀ σ' H',N σ' H'->∃m',m'<m/\W (i+1) m' σ' H')/\∀x H',J.R7 i H x H'->g x σ H' fun σ2 H2=>tb { D with nx:=N,ct:=N,bk:=D.nx } σ2 H2)
def Pq (fp:List Addr)(h:Heap):List (Addr×Obj):=fp.filterMap fun b=>(h.get? b).map fun o=>(b,o)
theorem Ur {fp:List Addr}{h:Heap}{b:Addr}{o:Obj}(hb:b∈fp)(e:h.get? b=some o):(b,o)∈Pq fp h:=List.mem_filterMap.mpr ⟨b,hb,by rw[e];rfl⟩
theorem zbY {fp:List Addr}{h:Heap}{p:Addr×Obj}(hp:p∈Pq fp h):p.1∈fp/\h.get? p.1=some p.2:=by
 obtain⟨b,hb,e⟩:=List.mem_filterMap.mp hp
 cases q:h.get? b with
 | none=>rw[q] at e;cases e
 | some o =>
  rw[q] at e
  have e':(b,o)=p:=ztX e
  subst e'
  exact⟨hb,q⟩
theorem Inv.pinned {pins:List (Addr×Obj)}{σ:St}{H:Hp}{s:Shared}{fp:List Addr}(I:Inv X pins σ H s)(hf:∀b∈fp,zbt X pins H b)(ho:∀b∈fp,∃o,s.heap.get? b=some o/\∀v,o.data≠.cell v):Inv X (pins++Pq fp s.heap) σ H s :=
 I.Xv fun p hp=>(List.mem_append.mp hp).elim (fun z=>I.pin p (ztJ _ z)) fun z=>by
  obtain⟨hb,e⟩:=zbY z
  obtain⟨f0,f1,f2,_⟩:=hf p.1 hb
  obtain⟨o,e',d⟩:=ho p.1 hb
  rw[e] at e';cases e'
  exact⟨e,f0,f1,f2,d⟩
theorem Inv.zak {pins pl:List (Addr×Obj)}{σ:St}{H:Hp}{s:Shared}(I:Inv X (pins++pl) σ H s):Inv X pins σ H s:=I.Xv fun p hp=>I.pin p (ztJ _ (List.mem_append_left _ hp))
theorem xJ {iter:Expr}{body:List Stmt}{wi:TI}{g:TG}{tb:TS}{pos:Pos}(hp:PassesOwn (model X.prog X.w) X.A X.env X.xe)(hc:X.calm=true)(hi:PI X tg iter wi)(hg:PG X tg g)(hb:PSs X body tb)
  (hs:∀x,foldedSetIterable iter X.env x=pure x:=by intro _;rfl):PS X (.For tg iter body [] pos) (zpc wi g tb):=by
 intro pins s σ H D I h
 refine wpAny_For (wM (hi pins s σ H _ I h) fun v s1 h1=>wM h1 fun itv s2 h2=>?_) hs
 obtain⟨it,fp,tn,J,H2,e,I2,T,st2,f2,W,⟨m0,w0⟩,turn⟩:=h2
 subst e
 have stat:∀{H':Hp},(∀b∈fp,H' b=none)->∀b∈fp,zbt X pins H' b:=fun hn b hb=>⟨hn b hb,(f2 b hb).2⟩
 refine codeAny_forLoop_any (fun n s'=>∃i σ' H',Inv X pins σ' H' s'/\tn i s'.heap/\(∀b∈fp,H' b=none)/\W i n σ' H') ?_ m0 ⟨0,σ,H2,I2,st2,fun b hb=>(f2 b hb).1,w0⟩
 rintro n s3 ⟨i,σ3,H3,I3,st3,fr3,w3⟩
 rcases turn i n σ3 H3 w3 with ⟨stop,qn⟩ | ⟨go,N,hN,step⟩
 ·refine wpAny_passesOwn hp (wM (T.done X rfl rfl rfl hc i pins s3 σ3 H3 X.xe I3 (stat fr3) st3 stop) fun r s4 ⟨hr,I4⟩=>?_)
  subst hr
  exact wpAny_execs_nil ⟨σ3,H3,I4,qn⟩
 ·refine wpAny_passesOwn hp (wM (T.item X rfl rfl rfl hc i pins s3 σ3 H3 X.xe I3 (stat fr3) st3 go) fun r s4 ⟨u,hr,h4⟩=>?_)
  subst hr
  refine wpAny_passesOwn hp (wM h4 fun _ s5 ⟨x,H5,I5,r5,y5,st5,fr5⟩=>?_)
  have I5':=I5.pinned (stat fr5) (T.obj _ _ st5)
  refine wpAny_passesOwn hp (wM (hg _ s5 σ3 H5 x u _ I5' r5 (step x H5 y5)) fun _ s6 ⟨σ6,H6,I6,q6⟩=>?_)
  refine wpAny_passesOwn hp (wM (hb _ s6 σ6 H6 _ I6 q6) fun f s7 q7=>?_)
  have again:∀{σ7:St} {H7:Hp},Inv X (pins++Pq fp s5.heap) σ7 H7 s7->N σ7 H7->∃m,m<n/\∃i σ' H',Inv X pins σ' H' s7/\tn i s7.heap/\(∀b∈fp,H' b=none)/\W i m σ' H':=fun {σ7 H7} I7 n7=>by
   obtain⟨m',hm,w7⟩:=hN σ7 H7 n7
   refine⟨m',hm,i+1,σ7,H7,I7.zak,T.keep _ _ _ st5 fun b hb o e=>(I7.pin (b,o) (ztJ _ (ztJ _ (Ur hb e)))).1,fun b hb=>?_,w7⟩
   obtain⟨o,e,d⟩:=T.obj _ _ st5 b hb
   exact(I7.pin (b,o) (ztJ _ (ztJ _ (Ur hb e)))).2.1
  cases f with
  | next=>obtain⟨σ7,H7,I7,n7⟩:=q7;exact again I7 n7
  | cont=>obtain⟨σ7,H7,I7,n7⟩:=q7;exact again I7 n7
  | brk=>obtain⟨σ7,H7,I7,q7⟩:=q7;exact⟨σ7,H7,I7.zak,q7⟩
  | ret v=>obtain⟨x7,σ7,H7,I7,r7,q7⟩:=q7;exact⟨x7,σ7,H7,I7.zak,r7,q7⟩
end
theorem wR {K:Frag}{a:Addr}{xs:List V}{g:TG}{tb:TS}{D:Ends}{σ:St}{H:Hp}(Pv:Nat->St->Hp->Prop)(h0:Pv 0 σ H)(hl:∀i σ H,i<=xs.length->Pv i σ H->zP K H a xs)
  (hs:∀i x σ H,xs[i]?=some x->Pv i σ H->g x σ H fun σ2 H2=>tb { D with nx:=Pv (i+1),ct:=Pv (i+1),bk:=D.nx } σ2 H2)(hd:∀ σ H,Pv xs.length σ H->D.nx σ H) :
  ∃W:Nat->Nat->St->Hp->Prop,(∃m,W 0 m σ H)/\∀i m σ H,W i m σ H ->
   ((KZ K a).stop i H/\D.nx σ H)\/((KZ K a).go i H/\∃N:St->Hp->Prop,(∀ σ' H',N σ' H'->∃m',m'<m/\W (i+1) m' σ' H')/\∀x H',(KZ K a).R7 i H x H'->g x σ H' fun σ2 H2=>tb { D with nx:=N,ct:=N,bk:=D.nx } σ2 H2):=by
 refine⟨fun i m σ H=>m=xs.length-i/\i<=xs.length/\Pv i σ H,⟨xs.length,by simp,ztP _,h0⟩,?_⟩
 rintro i m σ H ⟨rfl,hi,p⟩
 have q:=hl i σ H hi p
 by_cases hlt:i<xs.length
 ·refine .inr ⟨⟨xs,xs[i],q,by simp[hlt]⟩,Pv (i+1),fun σ' H' p'=>⟨xs.length-(i+1),by omega,rfl,hlt,p'⟩,fun x H' y=>?_⟩
  obtain⟨e,y⟩:=y
  subst e
  exact hs i x σ _ (y xs q) p
 ·have e:i=xs.length:=by omega
  subst e
  exact .inl ⟨⟨xs,q,ztI _⟩,hd σ H p⟩
theorem Zr {lo:Int}{n:Nat}{g:TG}{tb:TS}{D:Ends}{σ:St}{H:Hp}(Pv:Nat->St->Hp->Prop)(h0:Pv 0 σ H)
  (hs:∀i σ H,i<n->Pv i σ H->g (.int (lo+i)) σ H fun σ2 H2=>tb { D with nx:=Pv (i+1),ct:=Pv (i+1),bk:=D.nx } σ2 H2)(hd:∀ σ H,Pv n σ H->D.nx σ H) :
  ∃W:Nat->Nat->St->Hp->Prop,(∃m,W 0 m σ H)/\∀i m σ H,W i m σ H ->
   ((Itr lo n).stop i H/\D.nx σ H)\/((Itr lo n).go i H/\∃N:St->Hp->Prop,(∀ σ' H',N σ' H'->∃m',m'<m/\W (i+1) m' σ' H')/\∀x H',(Itr lo n).R7 i H x H'->g x σ H' fun σ2 H2=>tb { D with nx:=N,ct:=N,bk:=D.nx } σ2 H2):=by
 refine⟨fun i m σ H=>m=n-i/\i<=n/\Pv i σ H,⟨n,by simp,ztP _,h0⟩,?_⟩
 rintro i m σ H ⟨rfl,hi,p⟩
 by_cases hlt:i<n
 ·refine .inr ⟨hlt,Pv (i+1),fun σ' H' p'=>⟨n-(i+1),by omega,rfl,hlt,p'⟩,fun x H' y=>?_⟩
  obtain⟨e,y⟩:=y
  subst e y
  exact hs i σ _ hlt p
 ·have e:i=n:=by omega
  subst e
  exact .inl ⟨ztI _,hd σ H p⟩
abbrev R2:=V->V->Hp->VK->Prop
def Uq (X:Cx)(f:Value->Value->Sem Value)(r:R2):Prop :=
 ∀(pins:List (Addr×Obj)) (s:Shared) (σ:St) (H:Hp) (x y:V) (v u:Value) (Q:VK),Inv X pins σ H s->RelV x v->RelV y u->r x y H Q ->
  wpAny (model X.prog X.w) X.A (f v u) (EP X pins σ Q) X.xe s
def UnR (X:Cx)(f:Value->Sem Value)(r:V->Hp->VK->Prop):Prop :=
 ∀(pins:List (Addr×Obj)) (s:Shared) (σ:St) (H:Hp) (x:V) (v:Value) (Q:VK),Inv X pins σ H s->RelV x v->r x H Q ->
  wpAny (model X.prog X.w) X.A (f v) (EP X pins σ Q) X.xe s
def uW (X:Cx)(f:Value)(r:List V->Hp->VK->Prop):Prop :=
 ∀(pins:List (Addr×Obj)) (s:Shared) (σ:St) (H:Hp) (xs:List V) (us:List Value) (Q:VK),Inv X pins σ H s->Vals xs us->r xs H Q ->
  wpAny (model X.prog X.w) X.A (call f us) (EP X pins σ Q) X.xe s
def zpf (X:Cx)(r:V->Hp->(Bool->Hp->Prop)->Prop):Prop :=
 ∀(pins:List (Addr×Obj)) (s:Shared) (σ:St) (H:Hp) (x:V) (v:Value) (Q:Bool->Hp->Prop),Inv X pins σ H s->RelV x v->r x H Q ->
  wpAny (model X.prog X.w) X.A (truthy v) (TP X pins σ Q) X.xe s
def tOp (r:R2)(ta tb:TE):TE:=fun σ H Q=>ta σ H fun x H1=>tb σ H1 fun y H2=>r x y H2 Q
def tUn (r:V->Hp->VK->Prop)(ta:TE):TE:=fun σ H Q=>ta σ H fun x H1=>r x H1 Q
def rI (C:Int->Int->Prop)(g:Int->Int->V):R2:=fun x y H Q=>∃i j,x=.int i/\y=.int j/\C i j/\Q (g i j) H
def rI0 (g:Int->Int->V):R2:=fun x y H Q=>∃i j,x=.int i/\y=.int j/\Q (g i j) H
def rU (g:Int->V):V->Hp->VK->Prop:=fun x H Q=>∃i,x=.int i/\Q (g i) H
section
variable {X:Cx}{a b c:Expr}{ta tb tc:TE}{pos:Pos}
theorem zmq (ha:PE X a ta)(hb:PE X b tb){pins:List (Addr×Obj)}{s:Shared}{σ:St}{H:Hp}{R:V->V->Hp->Prop}(I:Inv X pins σ H s)
  (h:ta σ H fun x H1=>tb σ H1 fun y H2=>R x y H2){Q:Value->Shared->Prop}{f:Value->Value->Sem Value}
  (hf:∀v u s2 x y H2,Inv X pins σ H2 s2->RelV x v->RelV y u->R x y H2->wpAny (model X.prog X.w) X.A (f v u) Q X.xe s2) :
  wpAny (model X.prog X.w) X.A (eval a X.env) (fun v s₁=>wpAny (model X.prog X.w) X.A (eval b X.env) (fun u s₂=>wpAny (model X.prog X.w) X.A (f v u) Q X.xe s₂) X.xe s₁) X.xe s:=by
 refine wM (ha pins s σ H _ I h) fun v s1 ⟨x,H1,I1,r1,q1⟩=>?_
 refine wM (hb pins s1 σ H1 _ I1 q1) fun u s2 ⟨y,H2,I2,r2,q2⟩=>?_
 exact hf v u s2 x y H2 I2 r1 r2 q2
theorem zL {op:Operator}{r:R2}(ho:Uq X (binaryOp op) r)(ha:PE X a ta)(hb:PE X b tb):PE X (.BinOp a op b pos) (tOp r ta tb):=by
 intro pins s σ H Q I h
 exact wpAny_BinOp (zmq ha hb I h fun v u s2 x y H2 I2 rx ry q=>ho pins s2 σ H2 x y v u Q I2 rx ry q)
theorem zlK {op:UnaryOp}{r:V->Hp->VK->Prop}(ho:UnR X (unaryOp op) r)(ha:PE X a ta):PE X (.UnaryOp op a pos) (tUn r ta):=by
 intro pins s σ H Q I h
 exact UnaryOp_ (wM (ha pins s σ H _ I h) fun v s1 ⟨x,H1,I1,r1,q1⟩=>ho pins s1 σ H1 x v Q I1 r1 q1)
theorem opI {f:Value->Value->Sem Value}{C:Int->Int->Prop}{g:Int->Int->Int}
  (rule:∀(i j:Int) (t u:Tok) (s:Shared) (Q:Value->Shared->Prop) (E:Value->Shared->Prop),C i j->Q (.int (g i j) s.toks) { s with toks:=s.toks+1 }->wpAny (model X.prog X.w) X.A (f (.int i t) (.int j u)) Q E s) :
  Uq X f (rI C fun i j=>.int (g i j)):=by
 intro pins s σ H x y v u Q I rx ry h
 obtain⟨i,j,rfl,rfl,hc,q⟩:=h
 obtain⟨t,rfl⟩:=rx
 obtain⟨t',rfl⟩:=ry
 exact rule i j t t' s _ _ hc ⟨.int (g i j),H,I.tok _,⟨_,rfl⟩,q⟩
theorem zhD {f:Value->Value->Sem Value}{g:Int->Int->Int}
  (rule:∀(i j:Int) (t u:Tok) (s:Shared) (Q:Value->Shared->Prop) (E:Value->Shared->Prop),Q (.int (g i j) s.toks) { s with toks:=s.toks+1 }->wpAny (model X.prog X.w) X.A (f (.int i t) (.int j u)) Q E s) :
  Uq X f (rI0 fun i j=>.int (g i j)):=by
 intro pins s σ H x y v u Q I rx ry h
 obtain⟨i,j,rfl,rfl,q⟩:=h
 obtain⟨t,rfl⟩:=rx
 obtain⟨t',rfl⟩:=ry
 exact rule i j t t' s _ _ ⟨.int (g i j),H,I.tok _,⟨_,rfl⟩,q⟩
theorem zmr {f:Value->Value->Sem Value}{g:Int->Int->Bool}
  (rule:∀(i j:Int) (t u:Tok) (s:Shared) (Q:Value->Shared->Prop) (E:Value->Shared->Prop),Q (.bool (g i j)) s->wpAny (model X.prog X.w) X.A (f (.int i t) (.int j u)) Q E s) :
  Uq X f (rI0 fun i j=>.bl (g i j)):=by
 intro pins s σ H x y v u Q I rx ry h
 obtain⟨i,j,rfl,rfl,q⟩:=h
 obtain⟨t,rfl⟩:=rx
 obtain⟨t',rfl⟩:=ry
 exact rule i j t t' s _ _ ⟨.bl (g i j),H,I,rfl,q⟩
def zpg (i j:Int):Prop:=0<j/\j<1073741824
def zph (i j:Int):Prop:=0<=j/\j<=1000000/\i.natAbs<2^64
def zms (i j:Int):Prop:=(-(2^64)<i/\i<2^64)\/(-(2^64)<j/\j<2^64)
theorem zms.ok {i j:Int}(h:zms i j):IntMulOk i j:=by
 rcases h with ⟨h1,h2⟩ | ⟨h1,h2⟩
 ·exact .of_left (intBits_le_64 h1 h2)
 ·exact .of_right (intBits_le_64 h1 h2)
theorem zfx (k:Nat):(0:Int)<=2^k:=by
 rw[two_pow_cast]
 exact Int.natCast_nonneg _
theorem wH:Uq X (binaryOp .Add) (rI0 fun i j=>.int (i+j)):=zhD fun _ _ _ _ _ _ _ q=>add_int q
theorem Lq:Uq X (binaryOp .Sub) (rI0 fun i j=>.int (i-j)):=zhD fun _ _ _ _ _ _ _ q=>sub_int q
theorem Lr:Uq X (binaryOp .Mult) (rI zms fun i j=>.int (i*j)):=opI fun _ _ _ _ _ _ _ hc q=>mul_int q hc.ok
theorem zgG:Uq X (binaryOp .FloorDiv) (rI zpg fun i j=>.int (i / j)):=opI fun i j _ _ _ _ _ hc q=>by
 have h1:(0:Int)<j:=hc.1
 have h2:j<1073741824:=hc.2
 exact floordiv_int (by omega) (by rw[Int.fdiv_eq_ediv_of_nonneg i (by omega)];exact q) (.inl (PyProof.noPylong_small (by omega)))
theorem Yh:Uq X (binaryOp .Mod) (rI (fun _ j=>0<j) fun i j=>.int (i%j)):=opI fun i j _ _ _ _ _ hc q=>by
 have h1:(0:Int)<j:=hc
 exact mod_int' (by omega) (by rw[Int.fmod_eq_emod_of_nonneg i (by omega)];exact q)
theorem zmt:Uq X (binaryOp .Pow) (rI zph fun i j=>.int (i^j.toNat)):=opI fun _ _ _ _ _ _ _ hc q=>pow_int_small hc.1 hc.2.1 hc.2.2 q
theorem zmu:Uq X (binaryOp .RShift) (rI (fun _ j=>0<=j) fun i j=>.int (i / 2^j.toNat)):=opI fun i j _ _ _ _ _ hc q =>
 rshift_int hc (by rw[Int.fdiv_eq_ediv_of_nonneg i (zfx _)];exact q)
theorem zmv:Uq X (binaryOp .BitAnd) (rI0 fun i j=>.int (Builtin.bitAnd i j)):=zhD fun _ _ _ _ _ _ _ q=>and_int q
theorem znv:Uq X (binaryOp .BitOr) (rI0 fun i j=>.int (Builtin.bitOr i j)):=zhD fun _ _ _ _ _ _ _ q=>or_int q
theorem zmw:Uq X (binaryOp .BitXor) (rI0 fun i j=>.int (Builtin.bitXor i j)):=zhD fun _ _ _ _ _ _ _ q=>xor_int q
theorem zcO:Uq X (inplaceOp .Add) (rI0 fun i j=>.int (i+j)):=zhD fun _ _ _ _ _ _ _ q=>iadd_int q
theorem unI {f:Value->Sem Value}{g:Int->Int}
  (rule:∀(i:Int) (t:Tok) (s:Shared) (Q:Value->Shared->Prop) (E:Value->Shared->Prop),Q (.int (g i) s.toks) { s with toks:=s.toks+1 }->wpAny (model X.prog X.w) X.A (f (.int i t)) Q E s) :
  UnR X f (rU fun i=>.int (g i)):=by
 intro pins s σ H x v Q I rx h
 obtain⟨i,rfl,q⟩:=h
 obtain⟨t,rfl⟩:=rx
 exact rule i t s _ _ ⟨.int (g i),H,I.tok _,⟨_,rfl⟩,q⟩
theorem ziD:UnR X (unaryOp .USub) (rU fun i=>.int (-i)):=unI fun _ _ _ _ _ q=>neg_int q
end
def znw:V->V->Bool
 | .non,.non=>true | .non,.int _=>true | .int _,.non=>true | .non,.bl _=>true | .bl _,.non=>true | .non,.str _=>true | .str _,.non=>true
 | .int _,.int _=>true | .bl _,.bl _=>true | .str _,.str _=>true | .byt _,.byt _=>true
 | .int _,.str _=>true | .str _,.int _=>true | .bl _,.str _=>true | .str _,.bl _=>true
 | _,_=>false
def rEq:R2:=fun x y H Q=>znw x y=true/\Q (.bl (decide (x=y))) H
def rNe:R2:=fun x y H Q=>znw x y=true/\Q (.bl (!decide (x=y))) H
theorem zgH {i j:Int}:decide (V.int i=V.int j)=(i==j):=by
 rw[zt8]
 simp
theorem ziE {i j:Bool}:decide (V.bl i=V.bl j)=(i==j):=by
 rw[zt8]
 simp
theorem zgI {i j:Str}:decide (V.str i=V.str j)=(i==j):=by
 rw[zt8]
 simp
theorem zgJ {i j:Array UInt8}:decide (V.byt i=V.byt j)=(i.toList==j.toList):=by
 rw[zt8]
 cases i
 cases j
 simp
section
variable {X:Cx}{a b c:Expr}{ta tb tc:TE}{pos:Pos}
theorem yG {pins:List (Addr×Obj)}{σ:St}{H:Hp}{s:Shared}{Q:VK}{k k':Bool}(I:Inv X pins σ H s)(q:Q (.bl k) H)(e:k=k'):EP X pins σ Q (.bool k') s:=by
 subst e
 exact⟨.bl k,H,I,rfl,q⟩
theorem xu:Uq X (compareOp .Eq) rEq:=by
 intro pins s σ H x y v u Q I rx ry h
 obtain⟨hs,q⟩:=h
 cases x with
 | non =>
  cases rx
  cases y with
  | non=>cases ry;exact PySem.EqNone.eq_none_none (yG I q (by simp))
  | bl j=>cases ry;exact PySem.EqNone.eq_none_bool (yG I q (by simp))
  | int j=>obtain⟨t',rfl⟩:=ry;exact PySem.EqNone.eq_none_int (yG I q (by simp))
  | str j=>obtain⟨t',rfl⟩:=ry;exact PySem.EqNone.eq_none_str (yG I q (by simp))
  | _=>exact absurd (show false=true from hs) ztw
 | bl i =>
  cases rx
  cases y with
  | non=>cases ry;exact PySem.EqNone.eq_bool_none (yG I q (by simp))
  | bl j=>cases ry;exact eq_bool (yG I q ziE)
  | str j=>obtain⟨t',rfl⟩:=ry;exact PySem.EqMixed.eq_bool_str (yG I q (by simp))
  | _=>exact absurd (show false=true from hs) ztw
 | int i =>
  obtain⟨t,rfl⟩:=rx
  cases y with
  | non=>cases ry;exact PySem.EqNone.eq_int_none (yG I q (by simp))
  | int j=>obtain⟨t',rfl⟩:=ry;exact eq_int (yG I q zgH)
  | str j=>obtain⟨t',rfl⟩:=ry;exact PySem.EqMixed.eq_int_str (yG I q (by simp))
  | _=>exact absurd (show false=true from hs) ztw
 | str i =>
  obtain⟨t,rfl⟩:=rx
  cases y with
  | non=>cases ry;exact PySem.EqNone.eq_str_none (yG I q (by simp))
  | bl j=>cases ry;exact PySem.EqMixed.eq_str_bool (yG I q (by simp))
  | int j=>obtain⟨t',rfl⟩:=ry;exact PySem.EqMixed.eq_str_int (yG I q (by simp))
  | str j=>obtain⟨t',rfl⟩:=ry;exact eq_str (yG I q zgI)
  | _=>exact absurd (show false=true from hs) ztw
 | byt i =>
  obtain⟨t,rfl⟩:=rx
  cases y with
  | byt j=>obtain⟨t',rfl⟩:=ry;exact PySem.W.eq_bytes (yG I q zgJ)
  | _=>exact absurd (show false=true from hs) ztw
 | _=>cases y<;>exact absurd (show false=true from hs) ztw
theorem V0:Uq X (compareOp .NotEq) rNe:=by
 intro pins s σ H x y v u Q I rx ry h
 obtain⟨hs,q⟩:=h
 cases x with
 | non =>
  cases rx
  cases y with
  | non=>cases ry;exact PySem.EqNone.ne_none_none (yG I q (by simp))
  | bl j=>cases ry;exact PySem.EqNone.ne_none_bool (yG I q (by simp))
  | int j=>obtain⟨t',rfl⟩:=ry;exact PySem.EqNone.ne_none_int (yG I q (by simp))
  | str j=>obtain⟨t',rfl⟩:=ry;exact PySem.EqNone.ne_none_str (yG I q (by simp))
  | _=>exact absurd (show false=true from hs) ztw
 | bl i =>
  cases rx
  cases y with
  | non=>cases ry;exact PySem.EqNone.ne_bool_none (yG I q (by simp))
  | bl j=>cases ry;exact ne_bool (yG I q (congrArg not ziE))
  | str j=>obtain⟨t',rfl⟩:=ry;exact PySem.EqMixed.ne_bool_str (yG I q (by simp))
  | _=>exact absurd (show false=true from hs) ztw
 | int i =>
  obtain⟨t,rfl⟩:=rx
  cases y with
  | non=>cases ry;exact PySem.EqNone.ne_int_none (yG I q (by simp))
  | int j=>obtain⟨t',rfl⟩:=ry;exact ne_int (yG I q (congrArg not zgH))
  | str j=>obtain⟨t',rfl⟩:=ry;exact PySem.EqMixed.ne_int_str (yG I q (by simp))
  | _=>exact absurd (show false=true from hs) ztw
 | str i =>
  obtain⟨t,rfl⟩:=rx
  cases y with
  | non=>cases ry;exact PySem.EqNone.ne_str_none (yG I q (by simp))
  | bl j=>cases ry;exact PySem.EqMixed.ne_str_bool (yG I q (by simp))
  | int j=>obtain⟨t',rfl⟩:=ry;exact PySem.EqMixed.ne_str_int (yG I q (by simp))
  | str j=>obtain⟨t',rfl⟩:=ry;exact ne_str (yG I q (congrArg not zgI))
  | _=>exact absurd (show false=true from hs) ztw
 | byt i =>
  obtain⟨t,rfl⟩:=rx
  cases y with
  | byt j=>obtain⟨t',rfl⟩:=ry;exact PySem.W.ne_bytes (yG I q (congrArg not zgJ))
  | _=>exact absurd (show false=true from hs) ztw
 | _=>cases y<;>exact absurd (show false=true from hs) ztw
theorem zgK:Uq X (compareOp .Lt) (rI0 fun i j=>.bl (decide (i<j))):=zmr fun _ _ _ _ _ _ _ q=>lt_int q
theorem zbZ:Uq X (compareOp .Gt) (rI0 fun i j=>.bl (decide (j<i))):=zmr fun _ _ _ _ _ _ _ q=>gt_int q
theorem zlL:Uq X (compareOp .GtE) (rI0 fun i j=>.bl (decide (j<=i))):=zmr fun _ _ _ _ _ _ _ q=>ge_int q
theorem zR (b:Expr){op:CmpOp}(h:op≠.In:=by decide)(h2:op≠.NotIn:=by decide):behindInMarks op b=false:=by
 have e1:(op==CmpOp.In)=false:=by cases op<;>first | rfl | exact absurd rfl h
 have e2:(op==CmpOp.NotIn)=false:=by cases op<;>first | rfl | exact absurd rfl h2
 cases b<;>simp[behindInMarks,e1,e2]
theorem yV {op:CmpOp}{r:R2}(ho:Uq X (compareOp op) r)(ha:PE X a ta)(hb:PE X b tb)(hm:behindInMarks op b=false):PE X (.Compare a [op] [b] pos) (tOp r ta tb):=by
 intro pins s σ H Q I h
 exact wpAny_Compare1 (zmq ha hb I h fun v u s2 x y H2 I2 rx ry q=>ho pins s2 σ H2 x y v u Q I2 rx ry q) hm
inductive znx (x:V)(k:Bool->Prop):Prop
 | mk (c:Bool) (_:x=.bl c) (_:k c):znx x k
def zny (t:TE):TT:=fun σ H Q=>t σ H fun x H'=>znx x fun k=>Q k H'
theorem zO {op:CmpOp}{r:R2}(ho:Uq X (compareOp op) r)(ha:PE X a ta)(hb:PE X b tb)(hm:behindInMarks op b=false):PT X (.Compare a [op] [b] pos) (zny (tOp r ta tb)):=by
 intro pins s σ H Q I h
 refine wpAny_isTrue_Compare1 (wM (ha pins s σ H _ I h) fun v s1 ⟨x,H1,I1,r1,q1⟩=>wM (hb pins s1 σ H1 _ I1 q1) fun u s2 ⟨y,H2,I2,r2,q2⟩ =>
  wM (ho pins s2 σ H2 x y v u _ I2 r1 r2 q2) fun c s3 ⟨z,H3,I3,r3,k,e,q3⟩=>?_) hm
 subst e
 cases r3
 exact wpAny_truthy_bool ⟨H3,I3,q3⟩
def ziF (K:Frag)(x:V)(H:Hp)(k:Bool):Prop :=
 match x with
 | .non=>k=false
 | .bl b=>k=b
 | .int i=>k=(i != 0)
 | .str y=>y.length<=sizeLine/\k=((y.length:Int) != 0)
 | .byt y=>y.size<=sizeLine/\k=((y.size:Int) != 0)
 | .ref p=>(∃xs,zP K H p xs/\k=!xs.isEmpty)\/(∃xs,wG K H p xs/\k=!xs.isEmpty)\/∃kvs,H p=some (.dK kvs)/\k=!kvs.isEmpty
 | _=>False
theorem zfy {κ:Type}{kvs:List (κ×V)}{vs:List (κ×Value)}(r:KV kvs vs):(!vs.isEmpty)=!kvs.isEmpty:=by
 cases r<;>rfl
theorem zal {xs:List V}{its:List Value}(r:Vals xs its):(!its.toArray.isEmpty)=!xs.isEmpty:=by
 cases r<;>simp
theorem Sv:(sizeLine:Nat)<2^63:=by rw[sizeLine_eq];decide
theorem zmx:zpf X (fun x H Q=>∃k,ziF X.K x H k/\Q k H):=by
 intro pins s σ H x v Q I rx h
 obtain⟨k,e,q⟩:=h
 have hl:=Sv
 have hs:sizeLine=16777216:=sizeLine_eq
 cases x with
 | non =>
  cases rx
  have e':k=false:=e
  subst e'
  exact truthy_none ⟨H,I,q⟩
 | bl b =>
  cases rx
  have e':k=b:=e
  subst e'
  exact wpAny_truthy_bool ⟨H,I,q⟩
 | int i =>
  obtain⟨t,rfl⟩:=rx
  have e':k=(i != 0):=e
  subst e'
  exact PySem.P.truthy_int ⟨H,I,q⟩
 | str y =>
  obtain⟨t,rfl⟩:=rx
  obtain⟨hy,e'⟩:y.length<=sizeLine/\k=((y.length:Int) != 0):=e
  subst e'
  exact PySem.P.truthy_str (by omega) ⟨H,I.tok _,q⟩
 | byt y =>
  obtain⟨t,rfl⟩:=rx
  obtain⟨hy,e'⟩:y.size<=sizeLine/\k=((y.size:Int) != 0):=e
  subst e'
  exact PySem.W.truthy_bytes (by omega) ⟨H,I.tok _,q⟩
 | ref p =>
  cases rx
  have e':(∃xs,zP X.K H p xs/\k=!xs.isEmpty)\/(∃xs,wG X.K H p xs/\k=!xs.isEmpty)\/∃kvs,H p=some (.dK kvs)/\k=!kvs.isEmpty:=e
  rcases e' with ⟨xs,hx,e'⟩ | ⟨xs,hx,e'⟩ | ⟨kvs,hx,e'⟩
  ·subst e'
   obtain⟨its,r,pl,hz⟩:=I.list hx
   have hlen:=r.length
   exact wpAny_truthy_list pl.isList (by simp only[ztC];omega) ⟨H,I.tok _,by rw[zal r];exact q⟩
  ·subst e'
   obtain⟨its,r,pl,hz⟩:=I.tuple hx
   have hlen:=r.length
   exact truthy_tuple pl (by simp only[ztC];omega) ⟨H,I.tok _,by rw[zal r];exact q⟩
  ·subst e'
   obtain⟨hz,hS,vs,r,m⟩:kvs.length<=sizeLine/\(p==sysModules)=false/\∃vs,KV kvs vs/\s.heap.DictOf (yd X.prog X.w) p vs:=I.hok p _ hx
   have hlen:kvs.length=vs.length:=Paired.length r
   exact wpAny_truthy_dict hS m (by omega) ⟨H,I.tok _,by rw[zfy r];exact q⟩
 | _=>exact(show False from e).elim
theorem yE (ha:PE X a ta)(he:∀whole,isTrue a X.env whole=(do let v <-whole;standAt a.pos;holding [v] (truthy v))) :
  PT X a (fun σ H Q=>ta σ H fun x H'=>∃k,ziF X.K x H' k/\Q k H'):=by
 intro pins s σ H Q I h
 exact isTrue_plain (wM (ha pins s σ H _ I h) fun v s1 ⟨x,H1,I1,r1,q1⟩=>zmx pins s1 σ H1 x v Q I1 r1 q1) (he _)
theorem Zg:Uq X (binaryOp .Add) (fun x y H Q=>∃i j,x=.str i/\y=.str j/\i.length+j.length<=sizeLine/\Q (.str (i++j)) H):=by
 intro pins s σ H x y v u Q I rx ry h
 obtain⟨i,j,rfl,rfl,hz,q⟩:=h
 obtain⟨t,rfl⟩:=rx
 obtain⟨t',rfl⟩:=ry
 exact add_str (fun t' tk=>⟨.str (i++j),H,I.tok _,⟨_,rfl⟩,q⟩) hz
theorem vals1 {x:V}{us:List Value}(r:Vals [x] us):∃u,us=[u]/\RelV x u:=by
 cases r with
 | cons r1 r2=>cases r2;exact⟨_,rfl,r1⟩
theorem vals2 {x y:V}{us:List Value}(r:Vals [x,y] us):∃u w',us=[u,w']/\RelV x u/\RelV y w':=by
 cases r with
 | cons r1 r2 =>
  cases r2 with
  | cons r3 r4=>cases r4;exact⟨_,_,rfl,r1,r3⟩
theorem Ls (hc:X.calm=true):uW X (.builtin "max") (fun xs H Q=>∃i j,xs=[.int i,.int j]/\Q (.int (if j > i then j else i)) H):=by
 intro pins s σ H xs us Q I r h
 obtain⟨i,j,rfl,q⟩:=h
 obtain⟨u,w',rfl,⟨t,rfl⟩,⟨t',rfl⟩⟩:=vals2 r
 refine max_two_ints (I.ok.hd hc) fun h' tk k=>⟨_,H,I.kept k,?_,q⟩
 by_cases hj:j > i
 ·rw[if_pos hj,if_pos hj];exact⟨_,rfl⟩
 ·rw[if_neg hj,if_neg hj];exact⟨_,rfl⟩
theorem zhE (hc:X.calm=true):uW X (.builtin "min") (fun xs H Q=>∃i j,xs=[.int i,.int j]/\Q (.int (if j<i then j else i)) H):=by
 intro pins s σ H xs us Q I r h
 obtain⟨i,j,rfl,q⟩:=h
 obtain⟨u,w',rfl,⟨t,rfl⟩,⟨t',rfl⟩⟩:=vals2 r
 refine min_two_ints (I.ok.hd hc) fun h' tk k=>⟨_,H,I.kept k,?_,q⟩
 by_cases hj:j<i
 ·rw[if_pos hj,if_pos hj];exact⟨_,rfl⟩
 ·rw[if_neg hj,if_neg hj];exact⟨_,rfl⟩
theorem Lw:uW X (.type "int") (fun xs H Q=>(∃i,xs=[.int i]/\Q (.int i) H)\/∃k,xs=[.bl k]/\Q (.int (if k then 1 else 0)) H):=by
 intro pins s σ H xs us Q I r h
 rcases h with ⟨i,rfl,q⟩ | ⟨k,rfl,q⟩
 ·obtain⟨u,rfl,t,rfl⟩:=vals1 r
  exact call_int_int ⟨.int i,H,I,⟨_,rfl⟩,q⟩
 ·obtain⟨u,rfl,r1⟩:=vals1 r
  cases r1
  exact call_int_bool ⟨.int (if k then 1 else 0),H,I.tok _,⟨_,rfl⟩,q⟩
end
structure zfz (h:Heap)(x dx C:Addr)(mA:Str->Option Value):Prop where
 obj:h.get? x=some (PySem.W.instObj C dx)
 ns:h.Ns1 dx mA
 ne:dx≠x
theorem zhF {h:Heap}{dx:Addr}{mA:Str->Option Value}(n:h.Ns1 dx mA):∃od,h.get? dx=some od/\∀name,PySem.W.lookIn name od=some (mA name):=by
 obtain⟨o,es,ep,ho,hd,hk,_,hm⟩:=n
 refine⟨o,ho,fun name=>?_⟩
 have e:=hm name
 unfold nsFind findBy at e
 rw[<-Array.find?_toList] at e
 unfold PySem.W.lookIn
 rw[hd]
 dsimp only
 split
 ·rename_i y q
  rw[q] at e
  exact congrArg some e
 ·rename_i q
  rw[q] at e
  have a:es.toList.any (·.refKey)=false:=by
   rw[List.any_eq_false]
   intro y hy
   obtain⟨z,t,hkey⟩:=hk y (Array.mem_toList_iff.mp hy)
   simp[DictEntry.refKey,hkey]
  have a':¬es.toList.any (·.refKey)=true:=by rw[a];exact ztw
  rw[if_neg a']
  exact congrArg some e
theorem zfz.look {h:Heap}{x dx C:Addr}{mA:Str->Option Value}(I:zfz h x dx C mA):∃od,PySem.W.InstAt h x (PySem.W.instObj C dx) C (some od)/\∀name,PySem.W.lookIn name od=some (mA name) :=
 let ⟨od,ho,hl⟩:=zhF I.ns
 ⟨od,⟨I.obj,rfl,rfl,ho⟩,hl⟩
section
variable {prog:Program}{w:World}{A:Around}{E:Value->Shared->Prop}{s:Shared}{K:Frag}{x dx C f:Addr}{mA:Str->Option Value}{name:Str}{v:Value}
theorem get_map {expr:Bool}{Q:Value->Shared->Prop}(X:K.In s.heap)(I:zfz s.heap x dx C mA)(hg:PySem.W.plainGet K C name=true)(hh:PySem.W.hasDictIn K C=true)
  (ha:findIn K (.ref C) name=some none)(hv:mA name=some v)(hv':PySem.W.handedIn v=true)(h:Q v { s with toks:=s.toks+1 }) :
  wpAny (model prog w) A (getAttr (.ref x) name expr) Q E s:=by
 obtain⟨od,J,hl⟩:=I.look
 exact PySem.W.get_value X J (PySem.W.plainGet_of hg).1 (PySem.W.findObj_own hh ha rfl (by rw[hl,hv])) hv' h
theorem ziG {pl:Sem Bool}{Q:Value×List Value->Shared->Prop}(X:K.In s.heap)(I:zfz s.heap x dx C mA)(hg:PySem.W.plainGet K C name=true)
  (hf:findIn K (.ref C) name=some (some (.ref f)))(ht:PySem.W.isFn K (.ref f)=true)(hv:mA name=none)(h:Q (.ref f,[.ref x]) s) :
  wpAny (model prog w) A (getMethod (.ref x) name pl) Q E s:=by
 obtain⟨od,J,hl⟩:=I.look
 exact PySem.W.method_fn X J (PySem.W.plainGet_of hg).1 (PySem.W.plainGet_of hg).2 hf (beq_iff_eq.mp ht) (by show(PySem.W.lookIn name od).map (·.isSome)=some false;rw[hl,hv];rfl) h
theorem zkp {ns:List Str}{Q:Unit->Shared->Prop}(X:K.In s.heap)(I:zfz s.heap x dx C mA)
  (hs:findIn K (.ref C) "__setattr__"=some (some (.builtin "object.__setattr__")))(hp:PySem.W.plainOver K C=true)(ht:PySem.W.takerIn K C name=some none)(hh:PySem.W.hasDictIn K C=true)
  (hw:PySem.Within mA ns)(hsz:ns.length<=sizeLine)
  (h:∀h',zfz h' x dx C (fun y=>if y=name then some v else mA y)->Heap.SameBut dx s.heap h'->Q () { s with heap:=h',toks:=s.toks+2 }) :
  wpAny (model prog w) A (setAttr (.ref x) name v) Q E s:=by
 obtain⟨od,J,hl⟩:=I.look
 refine PySem.W.set_plain X J hs (PySem.W.osa_open (s:={ s with toks:=s.toks+1 }) (r:=none) X J hp ht fun b=>?_)
 obtain⟨cd,hc,hd'⟩:=PySem.W.any_some hh
 have hx:s.heap.get? x=some ⟨.ref C,some dx,.plain,#[]⟩:=I.obj
 refine wpAny_bind (wpAny_pure (wpAny_bind (wpAny_bind (wpAny_loadPart hx (wpAny_bind (PySem.W.Looks.here (s:={ s with toks:=s.toks+1 }) (PySem.W.looks_clsIn X hc) ?_))))))
 rw[hd']
 refine wpAny_pure (a:=some dx) (wpAny_bind (wpAny_pure (wpAny_bind ?_)))
 refine wpAny_nsSet1 (s:={ s with toks:=s.toks+1 }) I.ns fun h' hn2 hs2=>?_
 obtain⟨oD,esD,epD,hoD,hdD,hcD⟩:=hn2.count (PySem.Within.cons name v hw)
 refine wpAny_bind (wpAny_lookBehind hoD (by rw[hdD];exact pastItsLine_dict (ztO hcD (by rw[ztE];omega))) ?_)
 exact wpAny_pure (h _ ⟨(hs2.2 _ (Ne.symm I.ne)).trans I.obj,hn2,I.ne⟩ hs2)
theorem ziH {R:Result->Shared->Prop}{vs:List Value}{kw:List (Str×Value)}(X:K.In s.heap)(hm:PySem.W.makesIn K C=true)
  (hi:findIn K (.ref C) "__init__"=some (some (.ref f)))(hf:PySem.W.typeIn K (.ref f)=some (.type "function"))
  (h:codeAny (model prog w) (A.under (.builtin "type.__call__" ⟨.ref C::vs,kw⟩)) (.call (.ref f) ⟨.ref (s.heap.objs.size+1)::vs,kw⟩) (PySem.W.InitBack (s.heap.objs.size+1) R)
   {s with heap:=(s.heap.push PySem.W.emptyDict).push (PySem.W.instObj C s.heap.objs.size) }) :
  codeAny (model prog w) A (.call (.ref C) ⟨vs,kw⟩) R s:=by
 obtain⟨hh,g,d,t,os⟩:=s
 exact PySem.W.make_core (PySem.W.makes_of X hm) (PySem.W.looks_findIn X hi) (fun self=>PySem.W.bind_fn X self hf) (.inl rfl) h
end
def Yi (f:Str)(v:V):List (Str×V)->List (Str×V)
 | []=>[(f,v)]
 | (g,x)::r=>if g=f then (g,v)::r else (g,x)::Yi f v r
theorem K1 (f g:Str)(v:V):∀fs:List (Str×V),(Yi f v fs).lookup g=if g=f then some v else fs.lookup g
 | []=>by
  show List.lookup g [(f,v)]=_
  by_cases h:g=f
  ·have hb:(g==f)=true:=beq_iff_eq.mpr h
   simp only[List.lookup,hb,if_pos h]
  ·have hb:(g==f)=false:=beq_eq_false_iff_ne.mpr h
   simp only[List.lookup,hb,if_neg h]
 | (k,x)::r=>by
  have ih:=K1 f g v r
  rw[show Yi f v ((k,x)::r)=(if k=f then (k,v)::r else (k,x)::Yi f v r) from rfl]
  by_cases hk:k=f
  ·rw[if_pos hk]
   by_cases h:g=k
   ·have hb:(g==k)=true:=beq_iff_eq.mpr h
    simp only[List.lookup,hb,if_pos (h.trans hk)]
   ·have hb:(g==k)=false:=beq_eq_false_iff_ne.mpr h
    simp only[List.lookup,hb,if_neg (fun e:g=f=>h (e.trans hk.symm))]
  ·rw[if_neg hk]
   by_cases h:g=k
   ·have hb:(g==k)=true:=beq_iff_eq.mpr h
    simp only[List.lookup,hb,if_neg (fun e:g=f=>hk (h.symm.trans e))]
   ·have hb:(g==k)=false:=beq_eq_false_iff_ne.mpr h
    simp only[List.lookup,hb]
    exact ih
theorem Lx (f:Str)(v:V):∀fs:List (Str×V),f∈(Yi f v fs).map (·.1)/\∀g,g∈fs.map (·.1)->g∈(Yi f v fs).map (·.1)
 | []=>⟨by simp[Yi],fun g h=>by simp at h⟩
 | (k,x)::r=>by
  obtain⟨i1,i2⟩:=Lx f v r
  rw[show Yi f v ((k,x)::r)=(if k=f then (k,v)::r else (k,x)::Yi f v r) from rfl]
  by_cases hk:k=f
  ·rw[if_pos hk]
   subst hk
   exact⟨by simp,fun g h=>by simpa using h⟩
  ·rw[if_neg hk]
   refine⟨?_,fun g h=>?_⟩
   ·rw[ztR]
    exact ztD _ i1
   ·rw[ztR] at h ⊢
    rcases List.mem_cons.mp h with e | e
    ·exact List.mem_cons.mpr (.inl e)
    ·exact ztD _ (i2 g e)
theorem K3 (f:Str)(v:V):∀fs:List (Str×V),(Yi f v fs).length<=fs.length+1
 | []=>by simp[Yi]
 | (k,x)::r=>by
  have ih:=K3 f v r
  rw[show Yi f v ((k,x)::r)=(if k=f then (k,v)::r else (k,x)::Yi f v r) from rfl]
  by_cases hk:k=f
  ·rw[if_pos hk,ztE,ztE];omega
  ·rw[if_neg hk,ztE,ztE];omega
theorem T9.some_of {v:V}{o:Option Value}(r:T9 (some v) o):∃u,o=some u/\RelV v u:=by
 cases o with
 | none=>exact(show False from r).elim
 | some u=>exact⟨u,rfl,r⟩
theorem T9.none_of {o:Option Value}(r:T9 none o):o=none:=by
 cases o with
 | none=>rfl
 | some u=>exact(show False from r).elim
theorem zhG {v:V}{u:Value}(r:RelV v u):PySem.W.handedIn u=true:=by
 cases v with
 | non=>cases (show u=Value.none from r);rfl
 | bl b=>cases (show u=Value.bool b from r);rfl
 | int i=>obtain⟨t,e⟩:=(show ∃t,u=Value.int i t from r);cases e;rfl
 | str x=>obtain⟨t,e⟩:=(show ∃t,u=Value.str x t from r);cases e;rfl
 | byt b=>obtain⟨t,e⟩:=(show ∃t,u=Value.bytes b t from r);cases e;rfl
 | flt b=>obtain⟨t,e⟩:=(show ∃t,u=Value.float b t from r);cases e;rfl
 | ref a=>cases (show u=Value.ref a from r);rfl
 | ty n=>cases (show u=Value.type n from r);rfl
section
variable {P:Program}{w:World}{H H':Hp}{h h':Heap}{a C dx:Addr}{fs fs':List (Str×V)}
theorem JZ (hok:QC P w H h)(e:H a=some (.ins C dx fs)):∃mA,zfz h a dx C mA/\(∀f,T9 (fs.lookup f) (mA f))/\PySem.Within mA (fs.map (·.1))/\fs.length<=1000/\H dx=some (.own a):=by
 obtain⟨d,z,ne,ob,mA,n,r,q⟩:=(show xO P w H h a (.ins C dx fs) from hok a _ e)
 exact⟨mA,⟨ob,n,ne⟩,r,q,z,d⟩
end
structure Cls (K:Frag)(C:Addr):Prop where
 pg:PySem.W.plainGet K C Str.empty=true
 hd:PySem.W.hasDictIn K C=true
 po:PySem.W.plainOver K C=true
 sa:findIn K (.ref C) "__setattr__"=some (some (.builtin "object.__setattr__"))
theorem Cls.get {K:Frag}{C:Addr}(c:Cls K C)(f:Str):PySem.W.plainGet K C f=true:=c.pg
def Wg (K:Frag)(C:Addr)(f:Str):Prop:=findIn K (.ref C) f=some none
theorem Wg.taker {K:Frag}{C:Addr}{f:Str}(n:Wg K C f):PySem.W.takerIn K C f=some none:=by
 unfold PySem.W.takerIn
 rw[show findIn K (.ref C) f=some none from n]
 rfl
structure Meth (K:Frag)(C:Addr)(m:Str)(f:Addr):Prop where
 at_:findIn K (.ref C) m=some (some (.ref f))
 fn:PySem.W.isFn K (.ref f)=true
 kp:PySem.W.keepIn K (.ref f)=true
section
variable {X:Cx}{pins:List (Addr×Obj)}{σ:St}{H:Hp}{s:Shared}{a C dx:Addr}{fs:List (Str×V)}{f:Str}{v:V}{A:Around}{E:Value->Shared->Prop}
theorem zfA {b:Bool}{Q:Value->Shared->Prop}(I:Inv X pins σ H s)(e:H a=some (.ins C dx fs))(c:Cls X.K C)(n:Wg X.K C f)(l:fs.lookup f=some v)
  (h:∀u s',Inv X pins σ H s'->RelV v u->Q u s'):wpAny (model X.prog X.w) A (getAttr (.ref a) f b) Q E s:=by
 obtain⟨mA,O,r,_,_,_⟩:=JZ I.hok e
 obtain⟨u,hu,ru⟩:=T9.some_of (v:=v) (o:=mA f) (by rw[<-l];exact r f)
 exact get_map I.Ln O (c.get f) c.hd n hu (zhG ru) (h u _ (I.tok _) ru)
theorem Pr {m:Str}{g:Addr}{pl:Sem Bool}{Q:Value×List Value->Shared->Prop}(I:Inv X pins σ H s)(e:H a=some (.ins C dx fs))(c:Cls X.K C)(k:Meth X.K C m g)(l:fs.lookup m=none)
  (h:Q (.ref g,[.ref a]) s):wpAny (model X.prog X.w) A (getMethod (.ref a) m pl) Q E s:=by
 obtain⟨mA,O,r,_,_,_⟩:=JZ I.hok e
 have hn:mA m=none:=T9.none_of (by rw[<-l];exact r m)
 exact ziG I.Ln O (c.get m) k.at_ k.fn hn h
theorem zfB {y:V}{u:Value}{Q:Unit->Shared->Prop}(I:Inv X pins σ H s)(e:H a=some (.ins C dx fs))(c:Cls X.K C)(n:Wg X.K C f)(hl:fs.length<1000)(ry:RelV y u)
  (h:∀s',Inv X pins σ (upd H a (.ins C dx (Yi f y fs))) s'->Q () s'):wpAny (model X.prog X.w) A (setAttr (.ref a) f u) Q E s:=by
 obtain⟨mA,O,r,wi,_,ho⟩:=JZ I.hok e
 have hz:(fs.map (·.1)).length<=sizeLine:=by rw[zts,sizeLine_eq];omega
 refine zkp I.Ln O c.sa c.po n.taker c.hd wi hz fun h' O' sb=>h _ ?_
 have hd:∃o,h'.get? dx=some o:=let ⟨o,_,_,e',_⟩:=O'.ns;⟨o,e'⟩
 refine I.write (x:=a) (e:=dx) (by rw[e];exact True.intro) (.inr ho) (fun b q hb z=>(sb.2 b hb).trans z) hd ?_
 refine⟨by rw[zB O.ne];exact ho,?_,O.ne,O'.obj,_,O'.ns,fun g=>?_,fun g hg=>?_⟩
 ·have:=K3 f y fs;omega
 ·show T9 ((Yi f y fs).lookup g) (if g=f then some u else mA g)
  rw[K1]
  by_cases q:g=f
  ·rw[if_pos q,if_pos q];exact ry
  ·rw[if_neg q,if_neg q];exact r g
 ·by_cases q:g=f
  ·rw[q];exact(Lx f y fs).1
  ·refine(Lx f y fs).2 g (wi g fun z=>hg ?_)
   show(if g=f then some u else mA g)=none
   rw[if_neg q];exact z
theorem Inv.made (I:Inv X pins σ H s):Inv X pins σ (upd (upd H s.heap.objs.size (.own (s.heap.objs.size+1))) (s.heap.objs.size+1) (.ins C s.heap.objs.size []))
  {s with heap:=(s.heap.push PySem.W.emptyDict).push (PySem.W.instObj C s.heap.objs.size) }:=by
 have e1:(s.heap.push PySem.W.emptyDict).get? s.heap.objs.size=some PySem.W.emptyDict:=ztN s.heap rfl
 have e2:((s.heap.push PySem.W.emptyDict).push (PySem.W.instObj C s.heap.objs.size)).get? (s.heap.objs.size+1)=some (PySem.W.instObj C s.heap.objs.size):=by
  have:=ztN (s.heap.push PySem.W.emptyDict) (o:=PySem.W.instObj C s.heap.objs.size) rfl
  rwa [Heap.size_push] at this
 have e3:(s.heap.push PySem.W.emptyDict).Ns s.heap.objs.size (fun _=>none):=⟨PySem.W.emptyDict,#[],_,e1,rfl,(fun e he=>absurd he (by simp)),fun _=>rfl⟩
 have I1:=I.laid (a:=s.heap.objs.size) (o:=.own (s.heap.objs.size+1)) (h':=s.heap.push PySem.W.emptyDict) (t':=s.toks) (fun b u q=>zty _ q) (ztI _) ⟨_,e1⟩
 refine I1.laid (a:=s.heap.objs.size+1) (o:=.ins C s.heap.objs.size []) (t':=s.toks) (fun b u q=>zty _ q) (Nat.le_of_eq (Heap.size_push _ _)) ?_
 have ne:s.heap.objs.size≠s.heap.objs.size+1:=ztH (Nat.lt_succ_self _)
 refine⟨by rw[zB ne,zf],ztP _,ne,e2,fun _=>none,(Heap.Ns1.of_empty e3).at fun o q=>zty _ q,fun _=>True.intro,fun y hy=>absurd rfl hy⟩
theorem zkq {prog:Program}{w:World}{env:Env}{e:Expr}{f:Str}{pos:Pos}{s:Shared}{Q:Value->Shared->Prop}(hb:attributeBase e f env (eval e env)=eval e env)
  (h:wpAny (model prog w) A (eval e env) (fun o s₁=>wpAny (model prog w) A (getAttr o f true) Q E s₁) E s):wpAny (model prog w) A (eval (.Attribute e f pos) env) Q E s :=
 Attribute_any_ h (by rw[arm_eval_Attribute,hb])
end
def zpi (K:Frag)(ta:TE)(f:Str):TE:=fun σ H Q=>ta σ H fun x H1=>∃a C dx fs v,x=.ref a/\H1 a=some (.ins C dx fs)/\Cls K C/\Wg K C f/\fs.lookup f=some v/\Q v H1
def zpj (K:Frag)(ta tv:TE)(f:Str):TS:=fun D σ H=>tv σ H fun y H1=>ta σ H1 fun x H2=>∃a C dx fs,x=.ref a/\H2 a=some (.ins C dx fs)/\Cls K C/\Wg K C f/\fs.length<1000 /\
 D.nx σ (upd H2 a (.ins C dx (Yi f y fs)))
section
variable {X:Cx}{o e value:Expr}{f:Str}{pos pos' tpos:Pos}{ta tv:TE}
theorem Xh (he:PE X e ta)(hb:attributeBase e f X.env (eval e X.env)=eval e X.env):PE X (.Attribute e f pos) (zpi X.K ta f):=by
 intro pins s σ H Q I h
 refine zkq hb (wM (he pins s σ H _ I h) fun u s1 ⟨x,H1,I1,rx,a,C,dx,fs,v,ex,ea,c,n,l,q⟩=>?_)
 subst ex
 obtain rfl:u=Value.ref a:=rx
 exact zfA I1 ea c n l fun u' s2 I2 ru=>⟨v,H1,I2,ru,q⟩
theorem zcP (ha:PE X o ta)(hv:PE X value tv)(hs:swapsWith value (some (.Attribute o f pos')) pos.line X.env=pure false):PS X (.Assign [.Attribute o f pos'] value pos) (zpj X.K ta tv f):=by
 intro pins s σ H D I h
 refine plainObj_wpAny_Assign_Attribute (wM (hv pins s σ H _ I h) fun u s1 ⟨y,H1,I1,ry,q⟩=>wM (ha pins s1 σ H1 _ I1 q) fun ov s2 ⟨x,H2,I2,rx,a,C,dx,fs,ex,ea,c,n,l,q2⟩=>?_) hs
 subst ex
 obtain rfl:ov=Value.ref a:=rx
 exact zfB I2 ea c n l ry fun s3 I3=>⟨σ,_,I3,q2⟩
theorem zlM {pl:Sem Bool}{m:Str}{apos:Pos}{args:List Expr}{pins:List (Addr×Obj)}{s:Shared}{σ:St}{H:Hp}{Q:Value->Shared->Prop}{te:TE}(he:PE X e te)(I:Inv X pins σ H s)
  (h:te σ H fun x H1=>∃a C dx fs g,x=.ref a/\H1 a=some (.ins C dx fs)/\Cls X.K C/\Meth X.K C m g/\fs.lookup m=none /\
   ∀s1,Inv X pins σ H1 s1->wpAny (model X.prog X.w) X.A (callWith pos (.ref g) [.ref a] (backTo pos (starEach args X.env)) (backToKw pos (keywordEach [] X.env))) Q X.xe s1)
  (ht:eval (.Call (.Attribute e m apos) args [] pos) X.env=(do
   let ov <-eval e X.env
   standAt apos.atName
   let (f,first) <-holding [ov] (getMethod ov m pl)
   callWith pos f first (backTo pos (starEach args X.env)) (backToKw pos (keywordEach [] X.env)))) :
  wpAny (model X.prog X.w) X.A (eval (.Call (.Attribute e m apos) args [] pos) X.env) Q X.xe s:=by
 refine PySem.W.methodCall_KW (pl:=pl) (wM (he pins s σ H _ I h) fun u s1 ⟨x,H1,I1,rx,a,C,dx,fs,g,ex,ea,c,k,l,q⟩=>?_) ht
 subst ex
 obtain rfl:u=Value.ref a:=rx
 exact Pr I1 ea c k l (q s1 I1)
end
section
variable {X:Cx}{pins:List (Addr×Obj)}{σ:St}{H:Hp}{s:Shared}{A:Around}{E:Value->Shared->Prop}{Q:Value->Shared->Prop}{c:Value}{b:Bool}
inductive NZ (K:Frag)(H:Hp):V->Value->Prop where
 | non:NZ K H .non (.type "NoneType")
 | bl (x:Bool):NZ K H (.bl x) (.type "bool")
 | int (i:Int):NZ K H (.int i) (.type "int")
 | str (x:Str):NZ K H (.str x) (.type "str")
 | flt (x:UInt64):NZ K H (.flt x) (.type "float")
 | lst {a:Addr} {xs:List V} (e:H a=some (.lst xs)):NZ K H (.ref a) (.type "list")
 | KY {a:Addr} {o:Obj} {xs:List V} (e:H a=some (.KY o (.lst xs))):NZ K H (.ref a) (.type "list")
 | tup {a:Addr} {xs:List V} (e:H a=some (.tup xs)):NZ K H (.ref a) (.type "tuple")
 | dK {a:Addr} {kvs:List (Key×V)} (e:H a=some (.dK kvs)):NZ K H (.ref a) (.type "dict")
 | dT {a:Addr} {kvs:List (List Key×V)} (e:H a=some (.dT kvs)):NZ K H (.ref a) (.type "dict")
 | ins {a C dx:Addr} {fs:List (Str×V)} (e:H a=some (.ins C dx fs)) (cl:Cls K C) (ha:findIn K (.ref C) "__class__"=some (some (.builtin "object.__class__")))
   (hn:PySem.W.specialIn K (.builtin "object.__class__") "__get__"=some (some (.builtin "getset_descriptor.__get__"))) (htk:PySem.W.takesIn K (.builtin "object.__class__")=some true)
   (hm:PySem.W.mroIn K C (.type "object")=some true):NZ K H (.ref a) (.ref C)
theorem zhH {x:V}{u t:Value}(I:Inv X pins σ H s)(rx:RelV x u)(ty:NZ X.K H x t)(e:PySem.W.kitOne X.K t c=some b)(h:∀tk,Q (.bool b) { s with toks:=tk }) :
  wpAny (model X.prog X.w) A (call (.builtin "isinstance") [u,c]) Q E s:=by
 cases ty with
 | non=>cases (show u=Value.none from rx);exact PySem.W.kia_one PySem.W.kitx_none I.Ln True.intro e (fun z=>nomatch z) h
 | bl y=>cases (show u=Value.bool y from rx);exact PySem.W.kia_one PySem.W.kitx_bool I.Ln True.intro e (fun z=>nomatch z) h
 | int i=>obtain⟨t,q⟩:=(show ∃t,u=Value.int i t from rx);cases q;exact PySem.W.kia_one PySem.W.kitx_int I.Ln True.intro e (fun z=>nomatch z) h
 | str y=>obtain⟨t,q⟩:=(show ∃t,u=Value.str y t from rx);cases q;exact PySem.W.kia_one PySem.W.kitx_str I.Ln True.intro e (fun z=>nomatch z) h
 | flt y=>obtain⟨t,q⟩:=(show ∃t,u=Value.float y t from rx);cases q;exact PySem.W.kia_one PySem.W.kitx_float I.Ln True.intro e (fun z=>nomatch z) h
 | @lst a xs ea =>
  cases (show u=Value.ref a from rx)
  obtain⟨_,_,n,_,h1⟩:=(show xO X.prog X.w H s.heap a (.lst xs) from I.hok a _ ea)
  exact PySem.W.kia_one PySem.W.kitx_list I.Ln ⟨_,h1,rfl⟩ e (fun z=>nomatch z) h
 | @KY a ob xs ea =>
  cases (show u=Value.ref a from rx)
  obtain⟨_,_,_,n,_,h1⟩:=(show xO X.prog X.w H s.heap a (.KY ob (.lst xs)) from I.hok a _ ea)
  exact PySem.W.kia_one PySem.W.kitx_list I.Ln ⟨_,h1,rfl⟩ e (fun z=>nomatch z) h
 | @tup a xs ea =>
  cases (show u=Value.ref a from rx)
  obtain⟨_,_,_,p⟩:=(show xO X.prog X.w H s.heap a (.tup xs) from I.hok a _ ea)
  obtain⟨o,h1,h2,_⟩:=p
  exact PySem.W.kia_one PySem.W.kitx_tuple I.Ln ⟨o,h1,h2⟩ e (fun z=>nomatch z) h
 | @dK a kvs ea =>
  cases (show u=Value.ref a from rx)
  obtain⟨_,_,vs,_,p⟩:=(show xO X.prog X.w H s.heap a (.dK kvs) from I.hok a _ ea)
  obtain⟨o,es,ep,h1,h2,_⟩:=p
  exact PySem.W.kia_one PySem.W.kitx_dict I.Ln ⟨o,h1,h2.1⟩ e (fun z=>nomatch z) h
 | @dT a kvs ea =>
  cases (show u=Value.ref a from rx)
  obtain⟨_,_,xs,_,o,es,ep,h1,h2,_⟩:=(show xO X.prog X.w H s.heap a (.dT kvs) from I.hok a _ ea)
  exact PySem.W.kia_one PySem.W.kitx_dict I.Ln ⟨o,h1,h2.1⟩ e (fun z=>nomatch z) h
 | @ins a C dx fs ea cl ha hn htk hm =>
  cases (show u=Value.ref a from rx)
  obtain⟨mA,O,_⟩:=JZ I.hok ea
  obtain⟨od,J,_⟩:=O.look
  exact PySem.W.kia_one (PySem.W.kitx_own (cl.get _) cl.hd ha hn htk hm) I.Ln J e (fun z=>nomatch z) h
end
structure Zh (k:Nat)(A:Around):Prop where
 hd:A.handled=none
 gd:A.guards=some []
 dp:A.depth+3*k+5<recursionLimit
 un:A.units+16*k+200<cLine
theorem Zh.mono {j k:Nat}{A:Around}(r:Zh k A)(h:j<=k):Zh j A:=⟨r.hd,r.gd,by have:=r.dp;omega,by have:=r.un;omega⟩
theorem Zh.deeper {k:Nat}{A:Around}(r:Zh (k+1) A)(env:Env):Zh k (A.deeper env) :=
 ⟨r.hd,r.gd,by have:=r.dp;show A.depth+1+3*k+5<_;omega,by have:=r.un;show A.units+3+16*k+200<_;omega⟩
theorem zfC {A:Around}{C:Addr}{us:List Value}{kw:List (Str×Value)}:(A.under (.builtin "type.__call__" ⟨.ref C::us,kw⟩)).depth=A.depth+1:=by
 first | rfl | simp[Around.under,Code.weight,Code.isCreation,Code.isGuard,Code.isCaller,Code.frames,Code.isFrame,guardIds]
theorem zfD {A:Around}{C:Addr}{us:List Value}{kw:List (Str×Value)}:(A.under (.builtin "type.__call__" ⟨.ref C::us,kw⟩)).units=A.units+1:=by
 first | rfl | simp[Around.under,Code.cUnits,Code.frames,Code.isFrame]
theorem Zh.make {k:Nat}{A:Around}(r:Zh (k+1) A)(C:Addr)(us:List Value)(kw:List (Str×Value)):Zh k (A.under (.builtin "type.__call__" ⟨.ref C::us,kw⟩)) :=
 ⟨r.hd,(by
  have e:(Code.builtin "type.__call__" ⟨.ref C::us,kw⟩).guards=[]:=by first | rfl | simp[Code.guards,Code.isGuard,guardIds]
  unfold Around.under
  simp only[e,pushGuards]
  exact r.gd),by have:=r.dp;rw[zfC];omega,by have:=r.un;rw[zfD];omega⟩
theorem Zh.depth {k:Nat}{A:Around}(r:Zh k A):A.depth<recursionLimit:=by have:=r.dp;omega
theorem Zh.units {k:Nat}{A:Around}(r:Zh k A):A.units+64<cLine:=by have:=r.un;omega
def zbu:TA:=fun _ H Q=>Q [] H
def V1 (ta:TE)(tr:TA):TA:=fun σ H Q=>ta σ H fun x H1=>tr σ H1 fun xs H2=>Q (x::xs) H2
section
variable {X:Cx}{e:Expr}{es:List Expr}{te:TE}{t:TA}{pos:Pos}
theorem zc:PA X [] zbu:=fun _ _ _ _ H Q I h=>Calls.spliced_nil ⟨[],H,I,.nil,h⟩
theorem za (ha:PE X e te)(hr:PA X es t)(hs:starEach (e::es) X.env=(false,eval e X.env)::starEach es X.env:=by rfl):PA X (e::es) (V1 te t):=by
 intro pos pins s σ H Q I h
 rw[hs]
 show wpAny _ _ (spliced ((false,eval e X.env)::backTo pos (starEach es X.env))) _ _ s
 refine Calls.spliced_cons (wM (ha pins s σ H _ I h) fun u s1 ⟨x,H1,I1,r1,q1⟩=>?_)
 exact wM (hr pos pins s1 σ H1 _ I1 q1) fun us s2 ⟨xs,H2,I2,r2,q2⟩=>⟨x::xs,H2,I2,.cons r1 r2,q2⟩
def zpk (t:TA):TE:=fun σ H Q=>t σ H fun xs H1=>xs.length<=sizeLine/\∀p,H1 p=none->Q (.ref p) (upd H1 p (.tup xs))
def zpl (t:TA):TE:=fun σ H Q=>t σ H fun xs H1=>xs.length<=sizeLine/\∀p,H1 p=none->Q (.ref p) (upd H1 p (.lst xs))
theorem uY {x1}(h:PA X es t):PE X (.Tuple es x1 pos) (zpk t):=by
 intro pins s σ H Q I hq
 refine wpAny_Tuple_spliced (wM (h pos pins s σ H _ I hq) fun us s1 ⟨xs,H1,I1,r,z,q⟩=>⟨by rw[<-r.length];exact z,?_⟩)
 have hf:H1 s1.heap.objs.size=none:=I1.hok.fresh (ztI _)
 refine⟨.ref s1.heap.objs.size,upd H1 s1.heap.objs.size (.tup xs),I1.laid (t':=s1.toks) (fun b u e=>zty _ e) (ztI _) ?_,rfl,q _ hf⟩
 exact⟨z,us,r,⟨_,ztN _ rfl,rfl,_,rfl⟩⟩
theorem yK (h:PA X es t):PE X (.List es pos) (zpl t):=by
 intro pins s σ H Q I hq
 refine wpAny_List_spliced (wM (h pos pins s σ H _ I hq) fun us s1 ⟨xs,H1,I1,r,z,q⟩=>⟨by rw[<-r.length];exact z,?_⟩)
 have hf:H1 s1.heap.objs.size=none:=I1.hok.fresh (ztI _)
 refine⟨.ref s1.heap.objs.size,upd H1 s1.heap.objs.size (.lst xs),I1.laid (t':=s1.toks) (fun b u e=>zty _ e) (ztI _) ?_,rfl,q _ hf⟩
 exact⟨z,us,0,r,ztN _ rfl⟩
end
abbrev Sp:=List V->Hp->VK->XK->Prop
abbrev CXT:=List Env->Hp->Shared->XK->Value->Shared->Prop
structure zfE (P:Program)(w:World)(K:Frag)(mg:Str->Option Value)(base:Heap)(A:Around)(outer:List Env)(s:Shared)(H:Hp):Prop where
 frames:A.frames=some outer
 mod:Mod K mg base
 bs:∀b o,base.get? b=some o->s.heap.get? b=some o/\H b=none
 bsz:base.objs.size<=s.heap.objs.size
 Lk:s.heap.FunFrames base outer
 frf:∀b∈frs outer,H b=none
 hok:QC P w H s.heap
 bare:AllBare s.gens
def CE (outer:List Env)(P:Program)(w:World)(H:Hp)(s:Shared)(Q:VK)(u:Value)(s':Shared):Prop :=
 ∃v H',s'.os=s.os/\AllBare s'.gens/\Un (frs outer) [] H H' s.heap s'.heap/\QC P w H' s'.heap/\RelV v u/\Q v H'
def CR (CX:CXT)(outer:List Env)(P:Program)(w:World)(H:Hp)(s:Shared)(Q:VK)(E:XK)(r:Result)(s':Shared):Prop :=
 match r with
 | .ok (.ret u)=>CE outer P w H s Q u s'
 | .ok _=>False
 | .error e=>CX outer H s E e s'
structure zE (P:Program)(w:World)(K:Frag)(mg:Str->Option Value)(base:Heap)(CX:CXT)(k:Nat)(f:Addr)(fd:FuncData)(ps:List Str)(sp:Sp):Prop where
 len:∀vs H Q E,sp vs H Q E->vs.length=ps.length
 run:∀(A:Around) (outer:List Env) (s:Shared) (H:Hp) (args:Args) (us:List Value) (vs:List V) (Q:VK) (E:XK),Zh k A->zfE P w K mg base A outer s H->BindsTo s fd args (ps.zip us)->Vals vs us->sp vs H Q E ->
  codeAny (model P w) A (.call (.ref f) args) (CR CX outer P w H s Q E) s
theorem zE.mono {P:Program}{w:World}{K:Frag}{mg:Str->Option Value}{base:Heap}{CX:CXT}{j k:Nat}{f:Addr}{fd:FuncData}{ps:List Str}{sp:Sp}(F:zE P w K mg base CX j f fd ps sp)(h:j<=k) :
  zE P w K mg base CX k f fd ps sp:=⟨F.len,fun A outer s H args us vs Q E hr=>F.run A outer s H args us vs Q E (hr.mono h)⟩
theorem zfE.make {P:Program}{w:World}{K:Frag}{mg:Str->Option Value}{base:Heap}{A:Around}{outer:List Env}{s:Shared}{H:Hp}(e:zfE P w K mg base A outer s H)(C:Addr)(us:List Value)(kw:List (Str×Value)) :
  zfE P w K mg base (A.under (.builtin "type.__call__" ⟨.ref C::us,kw⟩)) outer s H:=⟨by first | exact e.frames | (simpa [Around.under,Code.envs,Code.isFrame,pushEnvs] using e.frames),e.mod,e.bs,e.bsz,e.Lk,e.frf,e.hok,e.bare⟩
section
variable {X:Cx}{pins:List (Addr×Obj)}{σ:St}{H:Hp}{s s':Shared}
theorem Inv.env0 (I:Inv X pins σ H s):zfE X.prog X.w X.K X.mg X.base X.A X.stack s H :=
 ⟨I.ok.frames,I.ok.mod,I.bs,ztO I.ok.bsz I.sz,I.stack,I.zgE,I.hok,I.bare⟩
theorem Inv.after {Q:VK}{u:Value}(I:Inv X pins σ H s)(h:CE X.stack X.prog X.w H s Q u s'):EP X pins σ Q u s':=by
 obtain⟨v,H',os,bare,un,hok,r,q⟩:=h
 obtain⟨hh,g,d,t,os'⟩:=s'
 obtain rfl:os'=s.os:=os
 exact⟨v,H',I.call (h':=hh) (g':=g) (d':=d) (t':=t) (ch:=[]) un hok bare (fun b z=>absurd z (by simp)),r,q⟩
end
def N5 (sp:Sp)(dvs:List V)(E:XK)(t:TA):TE:=fun σ H Q=>t σ H fun vs H1=>sp (vs++dvs) H1 Q E
def zgL (C:Addr)(m:Str)(sp:Sp)(dvs:List V)(E:XK)(ta:TE)(t:TA):TE:=fun σ H Q=>ta σ H fun x H1=>∃a dx fs,x=.ref a/\H1 a=some (.ins C dx fs)/\fs.lookup m=none /\
 t σ H1 fun vs H2=>sp (x::(vs++dvs)) H2 Q E
def znz (C:Addr)(sp:Sp)(dvs:List V)(E:XK)(t:TA):TE:=fun σ H Q=>t σ H fun vs H1=>∀x dx,H1 x=none->H1 dx=none->dx≠x ->
 sp (.ref x::(vs++dvs)) (upd (upd H1 dx (.own x)) x (.ins C dx [])) (fun v H2=>v=.non/\Q (.ref x) H2) E
def Binds (K:Frag)(fd:FuncData)(ps:List Str)(ds:List Value):Prop :=
 ∀(s:Shared) (us:List Value),K.In s.heap->(us++ds).length=ps.length->BindsTo s fd ⟨us,[]⟩ (ps.zip (us++ds))
theorem Binds.all {K:Frag}{fd:FuncData}{ps:List Str}(h:∀us:List Value,us.length=ps.length->bindArgs fd ⟨us,[]⟩=pure (ps.zip us)):Binds K fd ps []:=fun s us _ hl=>by
 rw[List.append_nil] at hl ⊢
 exact .of_eq (h us hl)
def Passes (CX:CXT)(X:Cx)(E:XK):Prop:=∀(pins:List (Addr×Obj)) (σ:St) (H:Hp) (s:Shared) (e:Value) (s':Shared),Inv X pins σ H s->CX X.stack H s E e s'->X.xe e s'
section
variable {X:Cx}{CX:CXT}{k:Nat}{f C:Addr}{fd:FuncData}{ps:List Str}{sp:Sp}{dvs:List V}{ds:List Value}{E:XK}{x m:Str}{p pos apos:Pos}{e o:Expr}{es:List Expr}{ta:TE}{t:TA}
theorem zfF {pins:List (Addr×Obj)}{σ:St}{H:Hp}{s:Shared}{Q:VK}{us:List Value}{vs:List V}(F:zE X.prog X.w X.K X.mg X.base CX k f fd ps sp)(hr:Zh k X.A)(hb:Binds X.K fd ps ds)(hd:Vals dvs ds)(hx:Passes CX X E)
  (I:Inv X pins σ H s)(r:Vals vs us)(h:sp (vs++dvs) H Q E):wpAny (model X.prog X.w) X.A (call (.ref f) us) (EP X pins σ Q) X.xe s:=by
 have r2:Vals (vs++dvs) (us++ds):=r.append hd
 have hl:(us++ds).length=ps.length:=by rw[<-r2.length];exact F.len _ _ _ _ h
 refine wpAny_call (codeAny_mono (F.run X.A X.stack s H ⟨us,[]⟩ (us++ds) (vs++dvs) Q E hr I.env0 (hb s us I.Ln hl) r2 h) fun r s' hq=>?_)
 cases r with
 | error e=>exact hx pins σ H s e s' I hq
 | ok fl =>
  cases fl with
  | ret u=>exact I.after hq
  | next=>exact False.elim hq
  | brk=>exact False.elim hq
  | cont=>exact False.elim hq
theorem zkr (F:zE X.prog X.w X.K X.mg X.base CX k f fd ps sp)(hr:Zh k X.A)(hg:Gl X x)(hm:X.mg x=some (.ref f))(hk:PySem.W.keepIn X.K (.ref f)=true)(hb:Binds X.K fd ps ds)(hd:Vals dvs ds)(hx:Passes CX X E)
  (ha:PA X (e::es) t)(hdb:(x==("__debug__" : Str))=false:=by decide)(he:starEach (e::es) X.env=(false,eval e X.env)::starEach es X.env:=by rfl)(hpl:(backTo pos (starEach es X.env)).any (·.1)=false:=by rfl) :
  PE X (.Call (.Name x p) (e::es) [] pos) (N5 sp dvs E t):=by
 intro pins s σ H Q I h
 refine wpAny_Call_Name_kw (zcL I hg hm ?_ hdb)
 refine PySem.W.callWith_K (h₀:=X.base) I.ok.mod.kin hk (wM (ha pos pins s σ H _ I h) fun us s1 ⟨vs,H1,I1,r,q⟩=>⟨I1.Ln,?_⟩) he hpl
 exact zfF F hr hb hd hx I1 r q
theorem zks {pl:Sem Bool}(he:PE X o ta)(c:Cls X.K C)(hm:Meth X.K C m f)(F:zE X.prog X.w X.K X.mg X.base CX k f fd ps sp)(hr:Zh k X.A)(hb:Binds X.K fd ps ds)(hd:Vals dvs ds)(hx:Passes CX X E)(ha:PA X (e::es) t)
  (hst:starEach (e::es) X.env=(false,eval e X.env)::starEach es X.env:=by rfl)(hpl:(backTo pos (starEach es X.env)).any (·.1)=false:=by rfl)
  (ht:eval (.Call (.Attribute o m apos) (e::es) [] pos) X.env=(do
   let ov <-eval o X.env
   standAt apos.atName
   let (f,first) <-holding [ov] (getMethod ov m pl)
   callWith pos f first (backTo pos (starEach (e::es) X.env)) (backToKw pos (keywordEach [] X.env))):=by rfl) :
  PE X (.Call (.Attribute o m apos) (e::es) [] pos) (zgL C m sp dvs E ta t):=by
 intro pins s σ H Q I h
 refine PySem.W.methodCall_KW (pl:=pl) (wM (he pins s σ H _ I h) fun u s1 ⟨x,H1,I1,rx,a,dx,fs,ex,ea,l,q⟩=>?_) ht
 subst ex
 obtain rfl:u=Value.ref a:=rx
 refine Pr I1 ea c hm l ?_
 refine PySem.W.callWith_K (first:=[.ref a]) (h₀:=X.base) I.ok.mod.kin hm.kp (wM (ha pos pins s1 σ H1 _ I1 q) fun us s2 ⟨vs,H2,I2,r,q2⟩=>⟨I2.Ln,?_⟩) hst hpl
 exact zfF (us:=.ref a::us) (vs:=.ref a::vs) F hr hb hd hx I2 (.cons rfl r) q2
theorem ziI {pl:Sem Bool}(he:PE X o ta)(c:Cls X.K C)(hm:Meth X.K C m f)(F:zE X.prog X.w X.K X.mg X.base CX k f fd ps sp)(hr:Zh k X.A)(hb:Binds X.K fd ps ds)(hd:Vals dvs ds)(hx:Passes CX X E)
  (ht:eval (.Call (.Attribute o m apos) [] [] pos) X.env=(do
   let ov <-eval o X.env
   standAt apos.atName
   let (f,first) <-holding [ov] (getMethod ov m pl)
   callWith pos f first (backTo pos (starEach [] X.env)) (backToKw pos (keywordEach [] X.env))):=by rfl) :
  PE X (.Call (.Attribute o m apos) [] [] pos) (zgL C m sp dvs E ta zbu):=by
 intro pins s σ H Q I h
 refine PySem.W.methodCall_KW (pl:=pl) (wM (he pins s σ H _ I h) fun u s1 ⟨x,H1,I1,rx,a,dx,fs,ex,ea,l,q⟩=>?_) ht
 subst ex
 obtain rfl:u=Value.ref a:=rx
 refine Pr I1 ea c hm l ?_
 exact PySem.W.callWith_K0 (first:=[.ref a]) I1.Ln hm.kp (zfF (us:=[.ref a]) (vs:=[.ref a]) F hr hb hd hx I1 (.cons rfl .nil) q)
structure Mk (K:Frag)(C f:Addr):Prop where
 makes:PySem.W.makesIn K C=true
 init:findIn K (.ref C) "__init__"=some (some (.ref f))
 fn:PySem.W.isFn K (.ref f)=true
 kp:PySem.W.keepIn K (.ref C)=true
theorem ziJ {pins:List (Addr×Obj)}{σ:St}{H:Hp}{s:Shared}{Q:VK}{us:List Value}{vs:List V}(M:Mk X.K C f)(F:zE X.prog X.w X.K X.mg X.base CX k f fd ps sp)(hr:Zh (k+1) X.A)(hb:Binds X.K fd ps ds)(hd:Vals dvs ds)
  (hx:Passes CX X E)(I:Inv X pins σ H s)(r:Vals vs us)
  (h:∀x dx,H x=none->H dx=none->dx≠x->sp (.ref x::(vs++dvs)) (upd (upd H dx (.own x)) x (.ins C dx [])) (fun v H2=>v=.non/\Q (.ref x) H2) E) :
  wpAny (model X.prog X.w) X.A (call (.ref C) us) (EP X pins σ Q) X.xe s:=by
 have hq:=h (s.heap.objs.size+1) s.heap.objs.size (I.hok.fresh (Nat.le_succ _)) (I.hok.fresh (ztI _)) (ztH (Nat.lt_succ_self _))
 have I2:=Inv.made (C:=C) I
 have r2:Vals (V.ref (s.heap.objs.size+1)::(vs++dvs)) (Value.ref (s.heap.objs.size+1)::(us++ds)):=.cons rfl (r.append hd)
 have hl:(Value.ref (s.heap.objs.size+1)::us++ds).length=ps.length:=by
  have e:=r2.length
  rw[F.len _ _ _ _ hq] at e
  exact e.symm
 refine wpAny_call (ziH (f:=f) I.Ln M.makes M.init (beq_iff_eq.mp M.fn) (codeAny_mono (F.run _ X.stack _ _ ⟨Value.ref (s.heap.objs.size+1)::us,[]⟩ (Value.ref (s.heap.objs.size+1)::(us++ds)) _ _ E (hr.make C us [])
  (I2.env0.make C us []) (hb _ (Value.ref (s.heap.objs.size+1)::us) I2.Ln hl) r2 hq) fun r s' hq'=>?_))
 cases r with
 | error e=>exact hx pins σ _ _ e s' I2 hq'
 | ok fl =>
  cases fl with
  | ret u =>
   obtain⟨v,H',I3,rv,ev,q3⟩:=I2.after hq'
   subst ev
   exact⟨rv,⟨V.ref (s.heap.objs.size+1),H',I3,rfl,q3⟩⟩
  | next=>exact False.elim hq'
  | brk=>exact False.elim hq'
  | cont=>exact False.elim hq'
theorem zkt (M:Mk X.K C f)(F:zE X.prog X.w X.K X.mg X.base CX k f fd ps sp)(hr:Zh (k+1) X.A)(hg:Gl X x)(hm:X.mg x=some (.ref C))(hb:Binds X.K fd ps ds)(hd:Vals dvs ds)(hx:Passes CX X E)
  (ha:PA X (e::es) t)(hdb:(x==("__debug__" : Str))=false:=by decide)(he:starEach (e::es) X.env=(false,eval e X.env)::starEach es X.env:=by rfl)(hpl:(backTo pos (starEach es X.env)).any (·.1)=false:=by rfl) :
  PE X (.Call (.Name x p) (e::es) [] pos) (znz C sp dvs E t):=by
 intro pins s σ H Q I h
 refine wpAny_Call_Name_kw (zcL I hg hm ?_ hdb)
 refine PySem.W.callWith_K (h₀:=X.base) I.ok.mod.kin M.kp (wM (ha pos pins s σ H _ I h) fun us s1 ⟨vs,H1,I1,r,q⟩=>⟨I1.Ln,?_⟩) he hpl
 exact ziJ M F hr hb hd hx I1 r q
end
structure zK (N P:List Str)(sc:Scope):Prop where
 kind:sc.kind=.function
 co:sc.isCoroutine=false
 gen:sc.isGenerator=false
 nd:N.Nodup
 pre:N.take P.length=P
 par:∀x∈P,sc.names.lookup x=some .local\/sc.names.lookup x=some .cell
 zmy:∀y∈sc.names,y.2≠.free
theorem zb0 {kindOf:Str->Option NameKind}{x:Str}:∀{binds:List (Str×Value)} {m:Str->Option Value},(∀v,(x,v)∉binds)->bindL kindOf binds m x=m x
 | [],_,_=>rfl
 | (n,v)::r,m,h=>by
  unfold bindL
  rw[zb0 fun w hw=>h w (ztD _ hw)]
  split
  ·have:x≠n:=by rintro rfl;exact h v ztM
   simp[this]
  ·rfl
theorem zb1 {kindOf:Str->Option NameKind}{x:Str}:∀{binds:List (Str×Value)} {m:Str->Option Value},(∀v,(x,v)∉binds)->bindC kindOf binds m x=m x
 | [],_,_=>rfl
 | (n,v)::r,m,h=>by
  unfold bindC
  rw[zb1 fun w hw=>h w (ztD _ hw)]
  split
  ·rfl
  ·have:x≠n:=by rintro rfl;exact h v ztM
   simp[this]
theorem zb2 {kindOf:Str->Option NameKind}{x:Str}{v:Value}:∀{P:List Str} {vs:List Value} {i:Nat} {m:Str->Option Value},P.Nodup->P[i]?=some x->vs[i]?=some v->kindOf x=some .local ->
  bindL kindOf (P.zip vs) m x=some v
 | [],_,_,_,_,h,_,_=>by simp at h
 | _::_,[],_,_,_,_,h,_=>by simp at h
 | p::P,w::vs,0,m,nd,h1,h2,hk=>by
  simp at h1 h2;subst h1;subst h2
  show bindL kindOf ((p,w)::P.zip vs) m p=_
  unfold bindL
  rw[zb0 fun v hv=>(List.nodup_cons.mp nd).1 (List.of_mem_zip hv).1,if_pos hk]
  simp
 | p::P,w::vs,i+1,m,nd,h1,h2,hk=>by
  show bindL kindOf ((p,w)::P.zip vs) m x=_
  unfold bindL
  exact zb2 (i:=i) (List.nodup_cons.mp nd).2 (by simpa using h1) (by simpa using h2) hk
theorem zb3 {kindOf:Str->Option NameKind}{x:Str}{v:Value}:∀{P:List Str} {vs:List Value} {i:Nat} {m:Str->Option Value},P.Nodup->P[i]?=some x->vs[i]?=some v->kindOf x≠some .local ->
  bindC kindOf (P.zip vs) m x=some v
 | [],_,_,_,_,h,_,_=>by simp at h
 | _::_,[],_,_,_,_,h,_=>by simp at h
 | p::P,w::vs,0,m,nd,h1,h2,hk=>by
  simp at h1 h2;subst h1;subst h2
  show bindC kindOf ((p,w)::P.zip vs) m p=_
  unfold bindC
  rw[zb1 fun v hv=>(List.nodup_cons.mp nd).1 (List.of_mem_zip hv).1,if_neg hk]
  simp
 | p::P,w::vs,i+1,m,nd,h1,h2,hk=>by
  show bindC kindOf ((p,w)::P.zip vs) m x=_
  unfold bindC
  exact zb3 (i:=i) (List.nodup_cons.mp nd).2 (by simpa using h1) (by simpa using h2) hk
def start (N:List Str)(vs:List V):St:=vs.map some++List.replicate (N.length-vs.length) none
def zhJ (CX:CXT)(P:Program)(w:World)(K:Frag)(mg:Str->Option Value)(base:Heap)(N:List Str)(qual:Str)(scope:Scope)(f:Addr)(cd:Value)(A:Around)(outer:List Env)(s:Shared)(H:Hp)(E:XK):Cx where
 prog:=P
 w:=w
 K:=K
 mg:=mg
 base:=base
 A:=A.deeper (envOfC qual scope s.heap.objs.size f cd)
 N:=N
 s₀:=s
 H₀:=H
 env:=envOfC qual scope s.heap.objs.size f cd
 outer:=outer
 stack:=envOfC qual scope s.heap.objs.size f cd::outer
 ex:=[]
 calm:=true
 fn:=fun _=>true
 pn:=[]
 xe:=fun e s'=>wpAny (model P w) (A.deeper (envOfC qual scope s.heap.objs.size f cd)) (leaving (envOfC qual scope s.heap.objs.size f cd) e) (fun _ s''=>CX outer H s E e s'') (fun e' s''=>CX outer H s E e' s'') s'
theorem zeb {sc:Scope}{n:Nat}{x:Str}(h:sc.names.lookup x=some .cell):∃c,(cellsFrom n sc.names []).lookup x=some c:=by
 have q:=PySem.W.cellsFrom_some sc.names n [] (.inl h)
 exact Option.isSome_iff_exists.mp q
theorem zhK {CX:CXT}{P:Program}{w:World}{K:Frag}{mg:Str->Option Value}{base:Heap}{N ps:List Str}{qual:Str}{scope:Scope}{f:Addr}{cd:Value}{A:Around}{outer:List Env}{s s1:Shared}{H:Hp}{E:XK}{us:List Value}{vs:List V}
  (S:zK N ps scope)(hd:A.handled=none)(e0:zfE P w K mg base A outer s H)(hl:vs.length=ps.length)(r:Vals vs us)
  (x:InCallC s s.heap.objs.size (bindL (envOfC qual scope s.heap.objs.size f cd).kindOf (ps.zip us) fun _=>none) (cellsFrom (s.heap.objs.size+1) scope.names []) (bindC (envOfC qual scope s.heap.objs.size f cd).kindOf (ps.zip us) fun _=>none) s1) :
  Inv (zhJ CX P w K mg base N qual scope f cd A outer s H E) [] (start N vs) H s1:=by
 have hpl:ps.length<=N.length:=by have:=congrArg List.length S.pre;rw[ztQ] at this;omega
 obtain⟨h1,tk,rfl,hk⟩:=x.done
 have noA:∀b:Addr,b∉(zhJ CX P w K mg base N qual scope f cd A outer s H E).ex:=fun b z=>absurd (show b∈([]:List Addr) from z) (by simp)
 refine⟨⟨e0.mod,S.kind,rfl,rfl,ztI _,fun y z c h1 h2=>?_,fun y hy=>?_,fun y c _ h=>?_,fun _=>hd,Around.frames_deeper e0.frames,.inr ⟨rfl,rfl⟩,fun b z=>absurd z (noA b),e0.bs,e0.bsz,fun b _ _=>noA b,fun b z=>absurd z (noA b),e0.Lk,e0.frf⟩,
  rfl,e0.bare,Un.kept hk,⟨_,x.toInCall.ns,fun i y v h1 h2 h3=>?_⟩,fun y c h=>⟨_,x.cell y c h⟩,e0.hok.fresh (ztI _),fun y c h=>?_,fun p hp=>absurd (show p∈([]:List (Addr×Obj)) from hp) (by simp),e0.hok.kept hk,?_⟩
 ·exact name_of_addr x.apart (PySem.mem_of_lookup h1) (PySem.mem_of_lookup h2)
 ·have hy:scope.names.lookup y=some .cell\/scope.names.lookup y=some .free:=hy
  rcases hy with hy | hy
  ·exact zeb hy
  ·exact absurd rfl (S.zmy _ (PySem.mem_of_lookup hy))
 ·exact ztL (x.above y c (PySem.mem_of_lookup h))
 ·have hi:i<vs.length:=by
   unfold start at h2
   by_cases hi:i<vs.length
   ·exact hi
   ·rw[List.getElem?_append_right (by simpa using hi)] at h2
    rw[List.getElem?_replicate] at h2
    split at h2<;>cases h2
  have ha:vs[i]?=some v:=by
   unfold start at h2
   rw[ztZ (by simpa using hi),ztu] at h2
   cases e:vs[i]? with
   | none=>rw[e] at h2;cases h2
   | some a=>rw[e] at h2;cases h2;rfl
  obtain⟨u,hu,rv⟩:=r.get ha
  have hp:ps[i]?=some y:=by
   rw[<-S.pre,List.getElem?_take_of_lt (by omega)];exact h1
  have ndP:ps.Nodup:=by rw[<-S.pre];exact S.nd.sublist (List.take_sublist _ _)
  refine⟨u,rv,?_⟩
  rcases S.par y (ztx hp) with k | k
  ·exact .inl ⟨k,zb2 ndP hp hu k⟩
  ·obtain⟨c,e⟩:=zeb (n:=s.heap.objs.size+1) k
   refine .inr ⟨.inl k,c,e,?_⟩
   have q:=x.cell y c e
   rw[zb3 ndP hp hu (by show scope.names.lookup y≠_;rw[k];decide)] at q
   exact q
 ·exact e0.hok.fresh (ztL (x.above y c (PySem.mem_of_lookup h)))
 ·unfold start
  show _=N.length
  rw[ztA,zts,List.length_replicate]
  omega
theorem znB {CX:CXT}{P:Program}{w:World}{K:Frag}{mg:Str->Option Value}{base:Heap}{k:Nat}{f:Addr}{name qual:Str}{params:Arguments}{body:List Stmt}{scope:Scope}{dV kV doc pm cdv ct oc:Value}{an od:Option Addr}
  {osl:Array (Option Value)}{N ps:List Str}{sp:Sp}(lk:K.lookup f=some ⟨oc,od,.func (PySem.W.fnOf name qual params body scope dV kV doc pm an cdv ct),osl⟩)(hcd:PySem.W.codeIn K cdv qual=true)(S:zK N ps scope)
  (len:∀vs H Q E,sp vs H Q E->vs.length=ps.length)
  (hbody:∀(A:Around) (outer:List Env) (s:Shared) (H:Hp) (vs:List V) (Q:VK) (E:XK),Zh k (A.deeper (envOfC qual scope s.heap.objs.size f cdv))->sp vs H Q E ->
   ∃t,PSs (zhJ CX P w K mg base N qual scope f cdv A outer s H E) body t/\t { nx:=fun _ H'=>Q .non H',rt:=Q } (start N vs) H) :
  zE P w K mg base CX (k+1) f (PySem.W.fnOf name qual params body scope dV kV doc pm an cdv ct) ps sp:=by
 refine⟨len,fun A outer s H args us vs Q E hr e0 hb r hsp=>?_⟩
 have hl:=len _ _ _ _ hsp
 have KX:K.In s.heap:=e0.mod.kin.keeps fun b o e=>(e0.bs b o e).1
 have lim:s.heap.NoLimit:=e0.mod.nolimit.keeps fun b o e=>(e0.bs b o e).1
 have hkind:∀y∈ps.zip us,scope.names.lookup y.1=some .local\/(scope.names.lookup y.1=some .cell/\((cellsFrom (s.heap.objs.size+1) scope.names []).lookup y.1).isSome=true):=fun⟨n,v⟩ hy=>by
  rcases S.par n (List.of_mem_zip hy).1 with q | q
  ·exact .inl q
  ·exact .inr ⟨q,PySem.W.cellsFrom_some _ _ _ (.inl q)⟩
 refine codeAny_call_function hr.depth (KX _ _ lk) rfl S.co S.gen rfl (PySem.W.codeRec_of KX hcd) (hb _ _ _ _ ?_)
 refine wpAny_newFunctionEnv_cells S.kind hkind fun env he s1 x=>?_
 subst he
 refine⟨lim.keeps x.toInCall.keep,codeAny_func ?_⟩
 obtain⟨t,ht,hq⟩:=hbody A outer s H vs Q E (hr.deeper _) hsp
 have I:Inv (zhJ CX P w K mg base N qual scope f cdv A outer s H E) [] (start N vs) H s1:=zhK S hr.hd e0 hl r x
 refine wpAny_mono (ht [] s1 (start N vs) H _ I hq) (fun fl s' hs=>?_) fun e s' hs=>hs
 have fin:∀{σ':St} {H':Hp} {v:V} {u:Value},Inv (zhJ CX P w K mg base N qual scope f cdv A outer s H E) [] σ' H' s'->RelV v u->Q v H'->CE outer P w H s Q u s' :=
  fun {σ' H' v u} J rv q=>⟨v,H',J.os,J.bare,J.base,J.hok,rv,q⟩
 cases fl with
 | ret u =>
  obtain⟨v,σ',H',J,rv,q⟩:=hs
  exact fin J rv q
 | next =>
  obtain⟨σ',H',J,q⟩:=hs
  exact fin (v:=V.non) (u:=Value.none) J rfl q
 | brk =>
  obtain⟨_,_,_,q⟩:=hs
  exact False.elim q
 | cont =>
  obtain⟨_,_,_,q⟩:=hs
  exact False.elim q
section
variable {X:Cx}{x:Str}{p pos:Pos}{e:Expr}{es:List Expr}{t:TA}{id T:String}{r:List V->Hp->VK->Prop}
def tCB (r:List V->Hp->VK->Prop)(t:TA):TE:=fun σ H Q=>t σ H fun vs H1=>r vs H1 Q
theorem zF (hc:uW X (.builtin id) r)(hg:Gl X x)(hm:X.mg x=none)(hv:bootBuiltins x=some (.builtin id))(ha:PA X (e::es) t)(hn:x ≠ "__name__" := by decide)(hdb:(x==("__debug__" : Str))=false:=by decide)
  (he:starEach (e::es) X.env=(false,eval e X.env)::starEach es X.env:=by rfl)(hpl:(backTo pos (starEach es X.env)).any (·.1)=false:=by rfl):PE X (.Call (.Name x p) (e::es) [] pos) (tCB r t):=by
 intro pins s σ H Q I h
 refine wpAny_Call_Name_kw (Wc I hg hm hv ?_ hn hdb)
 exact PyProof.Rows.callWith_builtin1 (wM (ha pos pins s σ H _ I h) fun us s1 ⟨vs,H1,I1,r1,q1⟩=>hc pins s1 σ H1 vs us Q I1 r1 q1) he hpl
theorem xT (hc:uW X (.type T) r)(hg:Gl X x)(hm:X.mg x=none)(hv:bootBuiltins x=some (.type T))(ha:PA X (e::es) t)(hn:x ≠ "__name__" := by decide)(hdb:(x==("__debug__" : Str))=false:=by decide)
  (he:starEach (e::es) X.env=(false,eval e X.env)::starEach es X.env:=by rfl)(hpl:(backTo pos (starEach es X.env)).any (·.1)=false:=by rfl):PE X (.Call (.Name x p) (e::es) [] pos) (tCB r t):=by
 intro pins s σ H Q I h
 refine wpAny_Call_Name_kw (Wc I hg hm hv ?_ hn hdb)
 exact PyProof.Rows.callWith_type1 (wM (ha pos pins s σ H _ I h) fun us s1 ⟨vs,H1,I1,r1,q1⟩=>hc pins s1 σ H1 vs us Q I1 r1 q1) he hpl
end
end L2
namespace HT
open PySem PyProof.Rows
section
variable {prog:Program}{w:World}{A:Around}{E:Value->Shared->Prop}{s:Shared}
def Zy (n d:Nat):Option Int->Nat
 | none=>d
 | some v=>if v<0 then (v+(n:Int)).toNat else min v.toNat n
theorem zam (n d:Nat):Zy n d none=d:=rfl
theorem R8 (n d k:Nat):Zy n d (some (k:Int))=min k n:=by
 show(if (k:Int)<0 then ((k:Int)+(n:Int)).toNat else min (k:Int).toNat n)=min k n
 rw[if_neg (by omega),zt5]
theorem zmz (n d:Nat)(hd:d<=n)(o:Option Int):Zy n d o<=n:=by
 cases o with
 | none=>exact hd
 | some v =>
  show(if v<0 then (v+(n:Int)).toNat else min v.toNat n)<=n
  by_cases hv:v<0
  ·rw[if_pos hv];omega
  ·rw[if_neg hv];exact Nat.min_le_right _ _
theorem zgM (v:Int)(n d:Nat):(if v<0 then max (v+(n:Int)) 0 else min v (n:Int))=((Zy n d (some v):Nat):Int):=by
 show(if v<0 then max (v+(n:Int)) 0 else min v (n:Int))=(((if v<0 then (v+(n:Int)).toNat else min v.toNat n):Nat):Int)
 by_cases hv:v<0
 ·simp only[if_pos hv];omega
 ·simp only[if_neg hv];omega
theorem zfG (lo hi:Option Int)(n:Nat):Builtin.Slice.sliceAdjust lo hi 1 (n:Int)=(((Zy n 0 lo:Nat):Int),((Zy n n hi:Nat):Int)):=by
 have h1:¬((1:Int)<0):=by omega
 unfold Builtin.Slice.sliceAdjust
 simp only[h1,if_false]
 refine Prod.ext ?_ ?_
 ·cases lo with
  | none=>rfl
  | some v=>exact zgM v n 0
 ·cases hi with
  | none=>rfl
  | some v=>exact zgM v n n
theorem zfH (i j:Nat):Builtin.Slice.slicePlaces (i:Int) (j:Int) 1=j-i:=by
 unfold Builtin.Slice.slicePlaces
 have h1:(1:Int) > 0:=by omega
 simp only[h1,if_true,Int.ediv_one]
 split<;>omega
theorem zan {v:Value}{o:Option Int}{Q:Option Int->Shared->Prop}(p:IsPart v o)(h:Q o s):wpAny (model prog w) A (Builtin.Slice.slicePartIndex v) Q E s:=by
 cases p with
 | none=>exact slicePart_none h
 | int i t=>exact slicePart_int h
theorem Ly {sl:Addr}{vl vu:Value}{lo hi:Option Int}{n:Nat}{Q:Int×Int×Nat->Shared->Prop}(hs:s.heap.IsSliceOf sl vl vu .none)(pl:IsPart vl lo)(pu:IsPart vu hi)
  (h:Q (((Zy n 0 lo:Nat):Int),1,Zy n n hi-Zy n 0 lo) s):wpAny (model prog w) A (Builtin.Slice.sliceApplied (.ref sl) (pure (n:Int))) Q E s:=by
 obtain⟨os,hos,hcs,hds⟩:=id hs
 unfold Builtin.Slice.sliceApplied Builtin.Slice.sliceFields
 refine wpAny_bind (wpAny_bind (wpAny_field hos hds (x:=vl) rfl (wpAny_bind (wpAny_field hos hds (x:=vu) rfl (wpAny_bind (wpAny_field hos hds (x:=.none) rfl (wpAny_pure ?_)))))))
 refine wpAny_bind (slicePart_none ?_)
 show wpAny _ _ (if ((1:Int)==0)=true then _ else _) _ _ s
 rw[if_neg (by decide)]
 refine wpAny_bind (zan pl (wpAny_bind (zan pu (wpAny_bind (wpAny_pure ?_)))))
 show wpAny _ _ (match Builtin.Slice.sliceAdjust lo hi 1 (n:Int) with | (lo,hi)=>pure (lo,(1:Int),Builtin.Slice.slicePlaces lo hi 1)) _ _ s
 rw[zfG lo hi n]
 show wpAny _ _ (pure (((Zy n 0 lo:Nat):Int),(1:Int),Builtin.Slice.slicePlaces ((Zy n 0 lo:Nat):Int) ((Zy n n hi:Nat):Int) 1)) _ _ s
 rw[zfH]
 exact wpAny_pure h
theorem ziK (xs:Array Value)(i k:Nat):((List.range k).filterMap fun(m:Nat)=>xs[((i:Int)+(m:Int)*1).toNat]?).toArray=((xs.toList.drop i).take k).toArray:=by
 have e:(fun(m:Nat)=>xs[((i:Int)+(m:Int)*1).toNat]?)=fun m=>xs[i+m]?:=by
  funext m
  have:((i:Int)+(m:Int)*1).toNat=i+m:=by omega
  rw[this]
 rw[e]
 have:=pick_run xs i k
 rw[List.filterMap_map] at this
 have e2:((fun x=>xs[x]?) ∘ fun x=>i+x)=fun m=>xs[i+m]?:=rfl
 rw[e2] at this
 rw[this]
theorem N6 {t sl:Addr}{items:Array Value}{vl vu:Value}{lo hi:Option Int}{Q:Value->Shared->Prop}(ht:IsTup s.heap t items)(hs:s.heap.IsSliceOf sl vl vu .none)(pl:IsPart vl lo)(pu:IsPart vu hi)
  (hw:¬(Zy items.size 0 lo=0/\Zy items.size items.size hi=items.size))
  (h:Q (.ref s.heap.objs.size) { s with heap:=s.heap.push { cls:=.type "tuple", data:=.seq ((items.toList.drop (Zy items.size 0 lo)).take (Zy items.size items.size hi-Zy items.size 0 lo)).toArray } })
  (hsz:items.size<=sizeLine):wpAny (model prog w) A (getItem (.ref t) (.ref sl)) Q E s:=by
 have zgN:sizeOk (.seq ((items.toList.drop (Zy items.size 0 lo)).take (Zy items.size items.size hi-Zy items.size 0 lo)).toArray):=by
  show((items.toList.drop (Zy items.size 0 lo)).take (Zy items.size items.size hi-Zy items.size 0 lo)).toArray.size<=sizeLine
  rw[ztC,ztQ,List.length_drop,Array.length_toList]
  omega
 have hj:Zy items.size items.size hi<=items.size:=zmz _ _ (ztI _) hi
 obtain⟨os,hos,hcs,hds⟩:=id hs
 have hTs:s.TypeIs (.ref sl) "slice" := ⟨os,hos,hcs⟩
 unfold getItem
 try with_reducible refine wpAny_holding ?_
 first | refine wpAny_bind (wpAny_pure ?_) | skip
 refine wpAny_bind (wpAny_sequenceKey ht.typeIs (by decide) ?_)
 refine wpAny_bind (wpAny_callSpecial?_slot (name:=Str.ofString "__getitem__") ht.typeIs PyProof.Rows.slot_tuple_getitem
  (wpAny_call_entry PyProof.Rows.slot_tuple_getitem ht.typeIs entry_tuple_getitem ?_ (args_tuple_getitem _ _)))
 show wpAny _ _ (Builtin.Tuple.tupleItemsOf (.ref t)>>=_) _ _ s
 refine wpAny_bind (tupleItemsOf_ ht ?_)
 refine wpAny_bind (wpAny_typeOf hTs ?_)
 rw[if_pos (by decide)]
 refine wpAny_bind (Ly hs pl pu ?_)
 have hno:¬((((Zy items.size 0 lo:Nat):Int)==0&&(1:Int)==1&&(Zy items.size items.size hi-Zy items.size 0 lo)==items.size)=true):=by
  intro q
  rw[ztU,ztU] at q
  have q1:((Zy items.size 0 lo:Nat):Int)=0:=eq_of_beq q.1.1
  have q2:Zy items.size items.size hi-Zy items.size 0 lo=items.size:=eq_of_beq q.2
  exact hw ⟨by omega,by omega⟩
 show wpAny _ _ (if (((Zy items.size 0 lo:Nat):Int)==0&&(1:Int)==1&&(Zy items.size items.size hi-Zy items.size 0 lo)==items.size)=true then _ else _) _ _ s
 rw[if_neg hno,ziK]
 first
  | exact wpAny_bind (m:=Builtin.Tuple.tupleExact _) (wpAny_newObj_type (wpAny_pure ⟨_,rfl,wpAny_pure h⟩) zgN)
  | exact wpAny_bind (m:=Builtin.Tuple.tupleExact _) (wpAny_newObj_type (wpAny_bind (wpAny_pure (wpAny_pure ⟨_,rfl,wpAny_pure h⟩))) zgN)
  | exact wpAny_bind (wpAny_bind (m:=Builtin.Tuple.tupleExact _) (wpAny_newObj_type (wpAny_pure (wpAny_pure ⟨_,rfl,wpAny_pure h⟩)) zgN))
  | exact wpAny_bind (wpAny_bind (m:=Builtin.Tuple.tupleExact _) (wpAny_newObj_type (wpAny_pure ⟨_,rfl,wpAny_pure h⟩) zgN))
end
end HT
namespace L2
open PySem PySem.Spec PyProof.Rows
abbrev TO:=St->Hp->(Option Int->Hp->Prop)->Prop
def PO (X:Cx)(e:Option Expr)(t:TO):Prop :=
 ∀(pins:List (Addr×Obj)) (s:Shared) (σ:St) (H:Hp) (Q:Option Int->Hp->Prop),Inv X pins σ H s->t σ H Q ->
  wpAny (model X.prog X.w) X.A (evalPart e X.env) (fun u s'=>∃o H',Inv X pins σ H' s'/\IsPart u o/\Q o H') X.xe s
def zku:TO:=fun _ H Q=>Q none H
def znC (t:TE):TO:=fun σ H Q=>t σ H fun x H1=>∃i,x=.int i/\Q (some i) H1
section
variable {X:Cx}{e:Expr}{te:TE}{lo hi:Option Expr}{tl th:TO}{pos p2:Pos}
theorem Xw:PO X none zku:=by
 intro pins s σ H Q I h
 rw[evalPart_none]
 exact wpAny_pure ⟨none,H,I,.none,h⟩
theorem Zz (h:PE X e te):PO X (some e) (znC te):=by
 intro pins s σ H Q I hw
 rw[evalPart_some]
 refine wM (h pins s σ H _ I hw) fun u s1 ⟨x,H1,I1,r1,q1⟩=>?_
 obtain⟨i,rfl,q⟩:=q1
 obtain⟨t,rfl⟩:=r1
 exact⟨some i,H1,I1,.int i t,q⟩
def SlR (X:Cx)(r:V->Option Int->Option Int->Hp->VK->Prop):Prop :=
 ∀(pins:List (Addr×Obj)) (s:Shared) (σ:St) (H:Hp) (x:V) (v vl vu:Value) (lo hi:Option Int) (sl:Addr) (Q:VK),Inv X pins σ H s->RelV x v->s.heap.IsSliceOf sl vl vu .none->IsPart vl lo->IsPart vu hi->r x lo hi H Q ->
  ∃T id,typeLookup (.type T) "__getitem__"=pure (some (.builtin id))/\s.TypeIs v T/\wpAny (model X.prog X.w) X.A (getItem v (.ref sl)) (EP X pins σ Q) X.xe s
def tSl (r:V->Option Int->Option Int->Hp->VK->Prop)(te:TE)(tl th:TO):TE:=fun σ H Q=>te σ H fun x H1=>tl σ H1 fun l H2=>th σ H2 fun u H3=>r x l u H3 Q
theorem u6 {r:V->Option Int->Option Int->Hp->VK->Prop}(hr:SlR X r)(he:PE X e te)(hl:PO X lo tl)(hu:PO X hi th):PE X (.Subscript e (.Slice lo hi none p2) pos) (tSl r te tl th):=by
 intro pins s σ H Q I h
 refine Subscript_ (wM (he pins s σ H _ I h) fun v s1 ⟨x,H1,I1,r1,q1⟩=>?_)
 refine wpAny_Slice (wM (hl pins s1 σ H1 _ I1 q1) fun vl s2 ⟨l,H2,I2,pl,q2⟩=>wM (hu pins s2 σ H2 _ I2 q2) fun vu s3 ⟨u,H3,I3,pu,q3⟩=>?_)
 rw[evalPart_none]
 refine wpAny_pure ?_
 have I4:Inv X pins σ H3 { s3 with heap:=s3.heap.push { cls:=.type "slice", data:=.fields #[vl,vu,.none] } }:=I3.kept (t':=s3.toks) fun b ob q=>zty _ q
 obtain⟨T,id,hT,ht,hg⟩:=hr pins { s3 with heap:=s3.heap.push { cls:=.type "slice", data:=.fields #[vl,vu,.none] } } σ H3 x v vl vu l u s3.heap.objs.size Q I4 r1 (Heap.IsSliceOf.new ..) pl pu q3
 show wpAny (model X.prog X.w) X.A (subscriptTail e (.Slice lo hi none p2) v (.ref s3.heap.objs.size)) (EP X pins σ Q) X.xe { s3 with heap:=s3.heap.push { cls:=.type "slice", data:=.fields #[vl,vu,.none] } }
 exact tail_any (ops:=[.ref s3.heap.objs.size,v]) ht hT hg (by with_unfolding_all rfl)
def QD (xs:List V)(lo hi:Option Int):List V:=(xs.drop (HT.Zy xs.length 0 lo)).take (HT.Zy xs.length xs.length hi-HT.Zy xs.length 0 lo)
theorem K4 (xs:List V)(lo hi:Option Int):(QD xs lo hi).length<=xs.length:=by
 unfold QD
 rw[ztQ,List.length_drop]
 omega
def zpm (K:Frag):V->Option Int->Option Int->Hp->VK->Prop:=fun x lo hi H Q=>∃a xs,x=.ref a/\wG K H a xs /\
 ¬(HT.Zy xs.length 0 lo=0/\HT.Zy xs.length xs.length hi=xs.length)/\∀p,H p=none->Q (.ref p) (upd H p (.tup (QD xs lo hi)))
theorem ziL:SlR X (zpm X.K):=by
 intro pins s σ H x v vl vu lo hi sl Q I rx hs pl pu h
 obtain⟨a,xs,rfl,hx,hw,q⟩:=h
 cases rx
 obtain⟨its,r,ht,hz⟩:=I.tuple hx
 have hlen:its.toArray.size=xs.length:=by rw[ztC];exact r.length.symm
 refine⟨"tuple", _,PyProof.Rows.slot_tuple_getitem.lookup,ht.typeIs,?_⟩
 refine HT.N6 ht hs pl pu (by rw[hlen];exact hw) ?_ (by rw[hlen];exact hz)
 rw[hlen]
 refine⟨.ref s.heap.objs.size,_,I.laid (t':=s.toks) (o:=.tup (QD xs lo hi)) (fun b ob q=>zty _ q) (ztI _) ?_,rfl,q _ (I.hok.fresh (ztI _))⟩
 exact⟨ztO (K4 xs lo hi) hz,_,(r.drop (HT.Zy xs.length 0 lo)).take (HT.Zy xs.length xs.length hi-HT.Zy xs.length 0 lo),IsTup.new _ _⟩
end
def ixN (n:Nat)(i:Int):Option Nat:=if 0<=i then (if i<n then some i.toNat else none) else if -(n:Int)<=i then some (i+n).toNat else none
def atI {α:Type}(xs:List α)(i:Int):Option α:=(ixN xs.length i).bind fun j=>xs[j]?
theorem zkv {n:Nat}{i:Int}{j:Nat}(h:ixN n i=some j):seqIndex? i n=some j/\j<n/\-(n:Int)<=i/\i<n:=by
 unfold ixN at h
 by_cases h0:0<=i
 ·rw[if_pos h0] at h
  by_cases h1:i<n
  ·rw[if_pos h1] at h
   have e:i.toNat=j:=ztX h
   exact⟨by rw[seqIndex_of h0 h1,e],by omega,by omega,h1⟩
  ·rw[if_neg h1] at h;cases h
 ·rw[if_neg h0] at h
  by_cases h1:-(n:Int)<=i
  ·rw[if_pos h1] at h
   have e:(i+n).toNat=j:=ztX h
   exact⟨by rw[seqIndex_neg (by omega) h1,e],by omega,h1,by omega⟩
  ·rw[if_neg h1] at h;cases h
theorem zcQ {α:Type}{xs:List α}{i:Int}{v:α}(h:atI xs i=some v):∃j,seqIndex? i xs.length=some j/\xs[j]?=some v/\j<xs.length/\-(xs.length:Int)<=i/\i<xs.length:=by
 unfold atI at h
 cases e:ixN xs.length i with
 | none=>rw[e] at h;cases h
 | some j =>
  rw[e] at h
  obtain⟨h1,h2,h3,h4⟩:=zkv e
  exact⟨j,h1,h,h2,h3,h4⟩
theorem vG {α:Type}{xs:List α}{j:Nat}{v:α}(h:xs[j]?=some v):atI xs (j:Int)=some v:=by
 have hj:j<xs.length:=(ztv.mp h).1
 have e:ixN xs.length (j:Int)=some j:=by
  unfold ixN
  rw[if_pos (by omega),if_pos (by omega)];simp
 unfold atI;rw[e];exact h
def zkw (b:Expr):Prop:=∀o i,subscripted b false o i=operate [o,i] (getItem o i)
def IxR (X:Cx)(r:R2):Prop :=
 ∀(value slice:Expr) (pins:List (Addr×Obj)) (s:Shared) (σ:St) (H:Hp) (x y:V) (v u:Value) (Q:VK),Inv X pins σ H s->RelV x v->RelV y u->r x y H Q ->
  subscripted slice false v u=operate [v,u] (getItem v u)->wpAny (model X.prog X.w) X.A (subscriptTail value slice v u) (EP X pins σ Q) X.xe s
def MtR (X:Cx)(id:String)(r:V->List V->Hp->VK->Prop):Prop :=
 ∀(pins:List (Addr×Obj)) (s:Shared) (σ:St) (H:Hp) (x:V) (xs:List V) (v:Value) (us:List Value) (Q:VK),Inv X pins σ H s->RelV x v->Vals xs us->r x xs H Q ->
  wpAny (model X.prog X.w) X.A (call (.builtin id) (v::us)) (EP X pins σ Q) X.xe s
section
variable {X:Cx}{a b:Expr}{ta tb:TE}{pos:Pos}
theorem yq {r:R2}(hr:IxR X r)(ha:PE X a ta)(hb:PE X b tb)(hs:zkw b):PE X (.Subscript a b pos) (tOp r ta tb):=by
 intro pins s σ H Q I h
 exact Subscript_ (zmq ha hb I h fun v u s2 x y H2 I2 rx ry q=>hr a b pins s2 σ H2 x y v u Q I2 rx ry q (hs _ _))
def zkx (K:Frag):R2:=fun x y H Q=>∃p xs i v,x=.ref p/\y=.int i/\zP K H p xs/\atI xs i=some v/\Q v H
def zpn (K:Frag):R2:=fun x y H Q=>∃p xs i v,x=.ref p/\y=.int i/\wG K H p xs/\atI xs i=some v/\Q v H
def zpo:R2:=fun x y H Q=>∃z i c,x=.str z/\y=.int i/\z.length<=sizeLine/\atI z.cps.toList i=some c/\Q (.str ⟨#[c]⟩) H
theorem yQ:IxR X (zkx X.K):=by
 intro value slice pins s σ H x y v u Q I rx ry h hs
 obtain⟨p,xs,i,z,rfl,rfl,hq,he,q⟩:=h
 cases rx
 obtain⟨t,rfl⟩:=ry
 obtain⟨its,r,pl,hz⟩:=I.list hq
 obtain⟨j,h1,h2,h3,h4,h5⟩:=zcQ he
 obtain⟨w,ew,rw'⟩:=r.get h2
 have hl:=r.length
 have hn:=Sv
 have fin:EP X pins σ Q w s:=⟨z,H,I,rw',q⟩
 by_cases h0:0<=i
 ·have hj:i.toNat=j:=by
   rw[seqIndex_of h0 h5] at h1
   exact ztX h1
  exact item_listR pl.isList h0 (by omega) (by rw[hj];simpa using ew) fin hs
 ·have hj:(i+(its.toArray.size:Int)).toNat=j:=by
   rw[seqIndex_neg (by omega) h4] at h1
   rw[ztC,<-hl]
   exact ztX h1
  exact subscriptTail_builtinR (x:=w) pl.isList.typeIs slot_list_getitem.lookup
   (wpAny_getItem_list_neg (Q:=fun r s'=>r=w/\EP X pins σ Q r s') pl.isList (by omega) (by rw[ztC]<;>omega) (by omega) (by rw[hj];simpa using ew) ⟨rfl,fin⟩) hs
theorem wI:IxR X (zpn X.K):=by
 intro value slice pins s σ H x y v u Q I rx ry h hs
 obtain⟨p,xs,i,z,rfl,rfl,hq,he,q⟩:=h
 cases rx
 obtain⟨t,rfl⟩:=ry
 obtain⟨its,r,pl,hz⟩:=I.tuple hq
 obtain⟨j,h1,h2,h3,h4,h5⟩:=zcQ he
 obtain⟨w,ew,rw'⟩:=r.get h2
 have hl:=r.length
 have hn:=Sv
 have fin:EP X pins σ Q w s:=⟨z,H,I,rw',q⟩
 exact subscriptTail_builtinR (x:=w) pl.typeIs slot_tuple_getitem.lookup
  (getItem_tuple (j:=j) (Q:=fun r s'=>r=w/\EP X pins σ Q r s') pl (by omega) (by omega) (by rw[ztC,<-hl];exact h1) (by simpa using ew) ⟨rfl,fin⟩) hs
theorem zcR:IxR X zpo:=by
 intro value slice pins s σ H x y v u Q I rx ry h hs
 obtain⟨z,i,c,rfl,rfl,hz,he,q⟩:=h
 obtain⟨t,rfl⟩:=rx
 obtain⟨t',rfl⟩:=ry
 obtain⟨j,h1,h2,h3,h4,h5⟩:=zcQ he
 have hl:z.cps.toList.length=z.length:=by simp[Str.length]
 rw[hl] at h1 h4 h5
 have hn:=Sv
 exact tail_any (typeIs_str s z t) slot_str_getitem.lookup (getItem_str (c:=c) (by
  have e1:decide (i < -(2^63:Int))=false:=decide_eq_false (by omega)
  have e2:decide (i >= 2^63)=false:=decide_eq_false (by omega)
  rw[e1,e2,Bool.or_false]) (by rw[h1];simpa using h2) ⟨.str ⟨#[c]⟩,H,I.tok _,⟨_,rfl⟩,q⟩) hs
theorem zcS (lo hi:Option Int)(n:Nat):(sliceBounds lo hi none n).1=((HT.Zy n 0 lo:Nat):Int)/\(sliceBounds lo hi none n).2.1=((HT.Zy n n hi:Nat):Int)/\(sliceBounds lo hi none n).2.2=1:=by
 refine⟨?_,?_,rfl⟩
 ·cases lo with
  | none=>simp[sliceBounds,HT.Zy]
  | some i =>
   simp only[sliceBounds,HT.Zy,Option.getD_none,show(1:Int) > 0 by decide,if_true]
   by_cases h:i<0
   ·simp only[h,if_true]<;>omega
   ·simp only[h,if_false]<;>omega
 ·cases hi with
  | none=>simp[sliceBounds,HT.Zy]
  | some i =>
   simp only[sliceBounds,HT.Zy,Option.getD_none,show(1:Int) > 0 by decide,if_true]
   by_cases h:i<0
   ·simp only[h,if_true]<;>omega
   ·simp only[h,if_false]<;>omega
theorem zbw (its:List Value)(lo hi:Option Int):slicePick its.toArray lo hi none=((its.drop (HT.Zy its.length 0 lo)).take (HT.Zy its.length its.length hi-HT.Zy its.length 0 lo)).toArray:=by
 obtain⟨h1,h2,h3⟩:=zcS lo hi its.toArray.size
 unfold slicePick
 rw[h1,h2,h3]
 simp only[sliceRange_one,pick_run,ztC]<;>rfl
def zpp (K:Frag):V->Option Int->Option Int->Hp->VK->Prop:=fun x lo hi H Q=>∃a xs,x=.ref a/\zP K H a xs/\∀p,H p=none->Q (.ref p) (upd H p (.lst (QD xs lo hi)))
theorem J0:SlR X (zpp X.K):=by
 intro pins s σ H x v vl vu lo hi sl Q I rx hs pl pu h
 obtain⟨a,xs,rfl,hx,q⟩:=h
 cases rx
 obtain⟨its,r,ht,hz⟩:=I.list hx
 have hlen:=r.length
 refine⟨"list", _,slot_list_getitem.lookup,ht.isList.typeIs,?_⟩
 refine wpAny_getItem_list_slice ht.isList hs pl pu .none (by simp) ?_ (by rw[ztC]<;>omega)
 rw[zbw,<-hlen]
 refine⟨.ref s.heap.objs.size,_,I.laid (t':=s.toks) (o:=.lst (QD xs lo hi)) (fun b ob q=>zty _ q) (ztI _) ?_,rfl,q _ (I.hok.fresh (ztI _))⟩
 exact⟨ztO (K4 xs lo hi) hz,_,0,(r.drop (HT.Zy xs.length 0 lo)).take (HT.Zy xs.length xs.length hi-HT.Zy xs.length 0 lo),ztN _ rfl⟩
def xX:V->Bool
 | .non=>true
 | .bl _=>true
 | .int _=>true
 | .str _=>true
 | _=>false
def eqV:V->V->Bool
 | .non,.non=>true
 | .bl a,.bl b=>a==b
 | .bl a,.int b=>(if a then 1 else 0)==b
 | .int a,.bl b=>a==(if b then 1 else 0)
 | .int a,.int b=>a==b
 | .str a,.str b=>a==b
 | _,_=>false
theorem ziM {A:Around}{s:Shared}{y x:V}{u v:Value}(ry:RelV y u)(rx:RelV x v)(fy:xX y=true)(fx:xX x=true):SeqAt.EqAt A s u v (eqV y x):=by
 cases y with
 | non =>
  cases ry
  cases x with
  | non=>cases rx;exact SeqAt.EqAt.same _
  | bl b=>cases rx;exact SeqAt.EqAt.none_bool b
  | int b=>obtain⟨t,rfl⟩:=rx;exact SeqAt.EqAt.none_int b t
  | str b=>obtain⟨t,rfl⟩:=rx;exact SeqAt.EqAt.none_str b t
  | _=>exact absurd (show false=true from fx) ztw
 | bl a =>
  cases ry
  cases x with
  | non=>cases rx;exact SeqAt.EqAt.bool_none a
  | bl b=>cases rx;exact SeqAt.EqAt.bool_bool a b
  | int b=>obtain⟨t,rfl⟩:=rx;exact SeqAt.EqAt.bool_int a b t
  | str b=>obtain⟨t,rfl⟩:=rx;exact SeqAt.EqAt.bool_str a b t
  | _=>exact absurd (show false=true from fx) ztw
 | int a =>
  obtain⟨t',rfl⟩:=ry
  cases x with
  | non=>cases rx;exact SeqAt.EqAt.int_none a t'
  | bl b=>cases rx;exact SeqAt.EqAt.int_bool a t' b
  | int b=>obtain⟨t,rfl⟩:=rx;exact SeqAt.EqAt.int_int a t' b t
  | str b=>obtain⟨t,rfl⟩:=rx;exact SeqAt.EqAt.int_str a t' b t
  | _=>exact absurd (show false=true from fx) ztw
 | str a =>
  obtain⟨t',rfl⟩:=ry
  cases x with
  | non=>cases rx;exact SeqAt.EqAt.str_none a t'
  | bl b=>cases rx;exact SeqAt.EqAt.str_bool a t' b
  | int b=>obtain⟨t,rfl⟩:=rx;exact SeqAt.EqAt.str_int a t' b t
  | str b=>obtain⟨t,rfl⟩:=rx;exact SeqAt.EqAt.str_str a t' b t
  | _=>exact absurd (show false=true from fx) ztw
 | _=>exact absurd (show false=true from fy) ztw
def eqU (x:V)(u:Value):Bool:=match u with
 | .none=>eqV .non x
 | .bool b=>eqV (.bl b) x
 | .int i _=>eqV (.int i) x
 | .str z _=>eqV (.str z) x
 | _=>false
theorem zcT {x y:V}{u:Value}(r:RelV y u)(f:xX y=true):eqU x u=eqV y x:=by
 cases y with
 | non=>cases r;rfl
 | bl b=>cases r;rfl
 | int i=>obtain⟨t,rfl⟩:=r;rfl
 | str z=>obtain⟨t,rfl⟩:=r;rfl
 | _=>exact absurd (show false=true from f) ztw
theorem N7 {x:V}:∀{xs:List V} {us:List Value},Vals xs us->xs.all xX=true->us.any (eqU x)=xs.any fun y=>eqV y x
 | _,_,.nil,_=>rfl
 | y::xs,u::us,.cons r t,f=>by
  rw[List.all_cons,ztU] at f
  rw[List.any_cons,List.any_cons,zcT r f.1,N7 t f.2]
theorem V2 {A:Around}{s:Shared}{x:V}{v:Value}(rx:RelV x v)(fx:xX x=true):∀{xs:List V} {us:List Value},Vals xs us->xs.all xX=true->∀u∈us,SeqAt.EqAt A s u v (eqU x u)
 | _,_,.nil,_=>fun u hu=>by cases hu
 | y::xs,u::us,.cons r t,f=>fun u' hu=>by
  rw[List.all_cons,ztU] at f
  rcases List.mem_cons.mp hu with rfl | hu
  ·rw[zcT r f.1];exact ziM r rx f.1 fx
  ·exact V2 rx fx t f.2 u' hu
def inV (x:V)(xs:List V):Bool:=xs.any fun y=>eqV y x
def rIn (K:Frag)(neg:Bool):R2:=fun x y H Q=>∃p xs,y=.ref p/\(zP K H p xs\/wG K H p xs)/\xX x=true/\xs.all xX=true/\Q (.bl (if neg then !inV x xs else inV x xs)) H
theorem R9:Uq X (compareOp .In) (rIn X.K false):=by
 intro pins s σ H x y v u Q I rx ry h
 obtain⟨p,xs,rfl,hq,fx,fs,q⟩:=h
 cases ry
 rcases hq with hq | hq
 ·obtain⟨its,r,pl,hz⟩:=I.list hq
  refine SeqAt.in_listAt (eqU x) pl.isList (fun w hw=>V2 rx fx r fs w (by simpa using hw)) ⟨.bl _,H,I,rfl,?_⟩
  rw[show its.toArray.any (eqU x)=its.any (eqU x) by simp,N7 r fs]
  exact q
 ·obtain⟨its,r,pl,hz⟩:=I.tuple hq
  refine SeqAt.in_tupleAt (eqU x) pl (fun w hw=>V2 rx fx r fs w (by simpa using hw)) ⟨.bl _,H,I,rfl,?_⟩
  rw[show its.toArray.any (eqU x)=its.any (eqU x) by simp,N7 r fs]
  exact q
theorem Us:Uq X (compareOp .NotIn) (rIn X.K true):=by
 intro pins s σ H x y v u Q I rx ry h
 obtain⟨p,xs,rfl,hq,fx,fs,q⟩:=h
 cases ry
 rcases hq with hq | hq
 ·obtain⟨its,r,pl,hz⟩:=I.list hq
  refine SeqAt.notIn_listAt (eqU x) pl.isList (fun w hw=>V2 rx fx r fs w (by simpa using hw)) ⟨.bl _,H,I,rfl,?_⟩
  rw[show its.toArray.any (eqU x)=its.any (eqU x) by simp,N7 r fs]
  exact q
 ·obtain⟨its,r,pl,hz⟩:=I.tuple hq
  refine SeqAt.notIn_tupleAt (eqU x) pl (fun w hw=>V2 rx fx r fs w (by simpa using hw)) ⟨.bl _,H,I,rfl,?_⟩
  rw[show its.toArray.any (eqU x)=its.any (eqU x) by simp,N7 r fs]
  exact q
theorem zH:uW X (.builtin "len") (fun xs H Q=>∃p ys,xs=[.ref p]/\(zP X.K H p ys\/wG X.K H p ys)/\Q (.int ys.length) H):=by
 intro pins s σ H xs us Q I r h
 obtain⟨p,ys,rfl,hq,q⟩:=h
 obtain⟨u,rfl,rx⟩:=vals1 r
 cases rx
 have hn:=Sv
 rcases hq with hq | hq
 ·obtain⟨its,r',pl,hz⟩:=I.list hq
  have hlen:=r'.length
  exact Calls.call_len_list pl.isList (by simp only[ztC]<;>omega) ⟨.int ys.length,H,I.tok _,⟨s.toks+1,by rw[ztC,hlen]⟩,q⟩
 ·obtain⟨its,r',pl,hz⟩:=I.tuple hq
  have hlen:=r'.length
  exact len_tuple pl (by simp only[ztC]<;>omega) ⟨.int ys.length,H,I.tok _,⟨s.toks+1,by rw[ztC,hlen]⟩,q⟩
theorem Ut:uW X (.builtin "len") (fun xs H Q=>∃z,xs=[.str z]/\z.length<=sizeLine/\Q (.int z.length) H):=by
 intro pins s σ H xs us Q I r h
 obtain⟨z,rfl,hz,q⟩:=h
 obtain⟨u,rfl,t,rfl⟩:=vals1 r
 have hn:=Sv
 exact len_str (by omega) ⟨.int z.length,H,I.tok _,⟨_,rfl⟩,q⟩
theorem Uu:uW X (.type "list") (fun xs H Q=>∃p ys,xs=[.ref p]/\(zP X.K H p ys\/wG X.K H p ys)/\∀l,H l=none->Q (.ref l) (upd H l (.lst ys))):=by
 intro pins s σ H xs us Q I r h
 obtain⟨p,ys,rfl,hq,q⟩:=h
 obtain⟨u,rfl,rx⟩:=vals1 r
 cases rx
 have fin:∀(its:List Value),Vals ys its->ys.length<=sizeLine->∀(h':Heap) (c':Nat),(∀b o',s.heap.get? b=some o'->h'.get? b=some o') ->
   h'.get? s.heap.objs.size=some { cls:=.type "list", dict:=none,data:=.seq its.toArray c',slots:=#[] }->EP X pins σ Q (.ref s.heap.objs.size) { s with heap:=h' }:=fun its r' hz h' c' kp e =>
  ⟨.ref s.heap.objs.size,_,I.laid (t':=s.toks) kp (ztI _) (show xO X.prog X.w _ h' _ (.lst ys) from ⟨hz,its,c',r',e⟩),rfl,q _ (I.hok.fresh (ztI _))⟩
 rcases hq with hq | hq
 ·obtain⟨its,r',pl,hz⟩:=I.list hq
  have hlen:=r'.length
  obtain⟨o,ho,hc,n,hd⟩:=pl.isList
  exact call_list_seq p (.inl rfl) ho hc hd (fun h' c' kp e=>fin its r' hz h' c' kp e) (by simp only[ztC]<;>omega)
 ·obtain⟨its,r',pl,hz⟩:=I.tuple hq
  have hlen:=r'.length
  obtain⟨o,ho,hc,n,hd⟩:=pl
  exact call_list_seq p (.inr rfl) ho hc hd (fun h' c' kp e=>fin its r' hz h' c' kp e) (by simp only[ztC]<;>omega)
def tyV (K:Frag)(T:String)(x:V)(H:Hp):Prop:=match x with
 | .str _=>T="str"
 | .int _=>T="int"
 | .ref p=>(T="list" /\ ∃xs,zP K H p xs)\/(T="tuple" /\ ∃o,K.lookup p=some o/\o.cls=.type "tuple" /\ o.dict=none) \/
   (T="dict" /\ ((∃kvs,H p=some (.dK kvs))\/∃kvs,H p=some (.dT kvs)))\/(T="set" /\ ∃S n,H p=some (.set S n))
 | _=>False
theorem zfI {pins:List (Addr×Obj)}{σ:St}{H:Hp}{s:Shared}{T:String}{x:V}{v:Value}(I:Inv X pins σ H s)(r:RelV x v)(ty:tyV X.K T x H) :
  s.TypeIs v T/\∀a,v=.ref a->∃ob,s.heap.get? a=some ob/\ob.dict=none:=by
 cases x with
 | str z =>
  obtain⟨t,rfl⟩:=r
  cases (show T="str" from ty)
  exact⟨typeIs_str s z t,fun _ e=>nomatch e⟩
 | int i =>
  obtain⟨t,rfl⟩:=r
  cases (show T="int" from ty)
  exact⟨typeIs_int s i t,fun _ e=>nomatch e⟩
 | ref p =>
  cases r
  rcases ty with ⟨rfl,xs,hq⟩ | ⟨rfl,o,hk,hc,hd⟩ | ⟨rfl,hk⟩ | ⟨rfl,S,n,hk⟩
  ·obtain⟨its,_,pl,_⟩:=I.list hq
   refine⟨pl.isList.typeIs,fun a e=>?_⟩
   cases e
   obtain⟨o,n,e,c,hd,_⟩:=pl
   exact⟨o,e,hd⟩
  ·refine⟨⟨o,I.Ln p o hk,hc⟩,fun a e=>?_⟩
   cases e
   exact⟨o,I.Ln _ o hk,hd⟩
  ·have z:∃o,s.heap.get? p=some o/\o.ExactDict:=by
    rcases hk with ⟨kvs,hk⟩ | ⟨kvs,hk⟩
    ·obtain⟨_,_,_,_,o,_,_,e,ex,_⟩:=I.hok p _ hk
     exact⟨o,e,ex⟩
    ·obtain⟨_,_,_,_,o,_,_,e,ex,_⟩:=I.hok p _ hk
     exact⟨o,e,ex⟩
   obtain⟨o,e,ex⟩:=z
   refine⟨⟨o,e,ex.1⟩,fun a e2=>?_⟩
   cases e2
   exact⟨o,e,ex.2.1⟩
  ·obtain⟨o,_,_,_,e,ex,_⟩:=I.hok p _ hk
   refine⟨⟨o,e,ex.1⟩,fun a e2=>?_⟩
   cases e2
   exact⟨o,e,ex.2.1⟩
 | _=>exact False.elim ty
def tBM (K:Frag)(T:String)(r:V->List V->Hp->VK->Prop)(to:TE)(t:TA):TE:=fun σ H Q=>to σ H fun x H1=>tyV K T x H1/\t σ H1 fun xs H2=>r x xs H2 Q
variable {o e:Expr}{es:List Expr}{to:TE}{t:TA}{name:Str}{apos cpos:Pos}{T id:String}{r:V->List V->Hp->VK->Prop}
theorem uw (pa:PlainAttrs T)(slot:Slot T name id)(hty:typeOf (.builtin id)=pure (.type "method_descriptor"))(hm:MtR X id r)(ho:PE X o to)(ha:PA X (e::es) t)
  (hbase:attributeBase o name X.env (eval o X.env)=eval o X.env:=by rfl)
  (hfew:((backTo cpos (starEach (e::es) X.env)).all (fun x=>!x.1)&&(backToKw cpos (keywordEach [] X.env)).all (fun x=>x.1.isSome)
   && decide ((e::es).length+([]:List Keyword).length+(if ([]:List Keyword).isEmpty then 0 else 1)<30))=true:=by rfl)
  (hline:(apos.endLine==cpos.line)=true:=by rfl)(hs:starEach (e::es) X.env=(false,eval e X.env)::starEach es X.env:=by rfl)(hplain:(backTo cpos (starEach es X.env)).any (·.1)=false:=by rfl) :
  PE X (.Call (.Attribute o name apos) (e::es) [] cpos) (tBM X.K T r to t):=by
 intro pins s σ H Q I h
 refine wpAny_Call_method_late hbase hfew hline rfl (wM (ho pins s σ H _ I h) fun v s1 ⟨x,H1,I1,r1,ty,q1⟩=>?_)
 obtain⟨h1,h2⟩:=zfI I1 r1 ty
 refine⟨T,id,pa,slot,hty,h1,h2,?_⟩
 have hA:=ha cpos pins s1 σ H1 _ I1 q1
 rw[hs] at hA ⊢
 refine Calls.callWith_builtin (by show(false||(backTo cpos (starEach es X.env)).any (·.1))=false;rw[hplain]<;>rfl) (Calls.evalArgs_plain ?_)
 exact wM hA fun us s2 ⟨vs,H2,I2,r2,q2⟩=>hm pins s2 σ H2 x vs v us Q I2 r1 r2 q2
end
def MtM (X:Cx)(id:String)(r:V->List V->Hp->VK->Prop):Prop :=
 ∀(pins:List (Addr×Obj)) (s:Shared) (σ:St) (H:Hp) (x:V) (xs:List V) (v:Value) (us:List Value) (Q:VK),Inv X pins σ H s->RelV x v->Vals xs us->r x xs H Q ->
  wpAny (model X.prog X.w) X.A (call (.builtin id) (v::us)) (EP X pins σ Q) X.xe s
theorem Vals.one:∀{x:V} {us:List Value},Vals [x] us->∃u,us=[u]/\RelV x u
 | _,_,.cons r .nil=>⟨_,rfl,r⟩
theorem Vals.two:∀{x y:V} {us:List Value},Vals [x,y] us->∃u v,us=[u,v]/\RelV x u/\RelV y v
 | _,_,_,.cons r (.cons q .nil)=>⟨_,_,rfl,r,q⟩
section
variable {X:Cx}{pins:List (Addr×Obj)}{σ:St}{H:Hp}{s:Shared}{l b:Addr}{xs ys zs:List V}
theorem Inv.zky {its its':List Value}{n:Nat}{f:Array Value->Array Value}{t':Nat}(I:Inv X pins σ H s)(hH:H l=some (.lst xs))
  (e:s.heap.get? l=some { cls:=.type "list", data:=.seq its.toArray n })(hf:f its.toArray=its'.toArray)(hv:Vals ys its')(hz:ys.length<=sizeLine) :
  Inv X pins σ (upd H l (.lst ys)) { s with heap:=s.heap.update l (Obj.mapSeq f),toks:=t' }:=by
 have q:=PySem.IsL.update e f
 rw[hf] at q
 refine I.write (x:=l) (e:=l) (by rw[hH];exact trivial) (.inl rfl) (fun b' u hb hu=>(Heap.get?_update_other s.heap (Obj.mapSeq f) (Ne.symm hb)).trans hu) ⟨_,q⟩ ?_
 exact⟨hz,its',_,hv,q⟩
theorem Inv.fresh (I:Inv X pins σ H s):H s.heap.objs.size=none:=I.hok.fresh (ztI _)
theorem Inv.ziN (I:Inv X pins σ H s)(hH:H l=some (.lst xs)):xs.length<=sizeLine/\∃(its:List Value) (n:Nat),Vals xs its/\xs.length=its.length/\s.heap.get? l=some { cls:=.type "list", data:=.seq its.toArray n }:=by
 obtain⟨z,its,n,r,e⟩:=I.hok l _ hH
 exact⟨z,its,n,r,r.length,e⟩
theorem zec {n:Nat}(h:n<=sizeLine):Builtin.List.listTooLong n=false:=by
 unfold Builtin.List.listTooLong
 exact decide_eq_false (by omega)
end
section
variable {X:Cx}
def zkz:V->List V->Hp->VK->Prop:=fun x vs H Q=>∃l xs y,x=.ref l/\vs=[y]/\H l=some (.lst xs)/\xs.length<sizeLine/\Q .non (upd H l (.lst (xs++[y])))
theorem wU:MtM X "list.append" zkz:=by
 intro pins s σ H x vs v us Q I rx rv h
 obtain⟨l,xs,y,rfl,rfl,hH,hz,q⟩:=h
 cases rx
 obtain⟨u,rfl,ru⟩:=rv.one
 obtain⟨z,its,n,r,hl,e⟩:=I.ziN hH
 refine call_meets F.slot_list_append ⟨_,e,rfl⟩ F.entry_list_append (F.args_list_append_2 _ _) (PySem.list_append l its.toArray n u (by rw[ztC];omega)) ⟨e,?_⟩
 refine⟨.non,_,I.zky (its':=its++[u]) hH e (by simp) (r.append (.cons ru .nil)) ?_,rfl,q⟩
 rw[ztA,zt0]
 omega
def zkA:V->List V->Hp->VK->Prop:=fun x vs H Q=>∃l b xs zs,x=.ref l/\vs=[.ref b]/\H l=some (.lst xs)/\H b=some (.lst zs)/\xs.length+zs.length<=sizeLine/\Q .non (upd H l (.lst (xs++zs)))
theorem Lz:MtM X "list.extend" zkA:=by
 intro pins s σ H x vs v us Q I rx rv h
 obtain⟨l,b,xs,zs,rfl,rfl,hH,hB,hz,q⟩:=h
 cases rx
 obtain⟨u,rfl,ru⟩:=rv.one
 cases ru
 obtain⟨z,its,n,r,hl,e⟩:=I.ziN hH
 obtain⟨z2,its2,n2,r2,hl2,e2⟩:=I.ziN hB
 have hsz:its.toArray.size+its2.toArray.size<=sizeLine:=by rw[ztC,ztC];omega
 have ziO:¬(!its.toArray.isEmpty&&Builtin.List.listTooLong (its.toArray.size+its2.toArray.size))=true:=by
  rw[zec hsz,Bool.and_false]
  exact ztw
 refine call_meets F.slot_list_extend ⟨_,e,rfl⟩ F.entry_list_extend (F.args_list_extend_2 _ _)
  (AutoSeq1.list_extend_list_list_0 l its.toArray n b its2.toArray n2 ziO (by rw[ztC];omega) (by omega)) ⟨e,e2,?_⟩
 refine⟨.non,_,I.zky (its':=its++its2) hH e (by simp) (r.append r2) ?_,rfl,q⟩
 rw[ztA]
 omega
end
end L2
namespace Att
open PySem PySem.W PySem.Calls PyProof.Rows
theorem Jw {P:Params}{h:Heap}:∀(ns:List Int) (vs:List Value),WellAll P h vs (ns.map WData.int)->IntsAre vs ns:=by
 intro ns
 induction ns with
 | nil =>
  intro vs w
  rw[List.map_nil] at w
  cases w
  exact .nil
 | cons n ns ih =>
  intro vs w
  rw[ztR] at w
  cases w with
  | cons a b =>
   cases a
   exact .cons _ _ (ih _ b)
theorem zhL {l:OpenLaw}{n:Nat}(hn:l.most=some n){P:Params}{h:Heap}{args:List WData}{vals:List Value}
  (hpre:l.row.toRowW.claim.pre args=true)(hwl:WellAll P h vals args) :
  ∃a vs ns,vals=[Value.ref a]/\args=[WData.list (ns.map WData.int)]/\h.get? a=some { cls:=.type "list", data:=.seq vs.toArray }/\IntsAre vs ns/\ns.length<=n:=by
 have hsh:WShape.hasAll [] args [.list .int]=true:=(pre_splitW hpre).1
 have hc:l.pre.holds [] { args:=args }=true:=(pre_splitW hpre).2
 obtain⟨d,r,rfl,h1,h2⟩:=hasAllW_cons hsh
 obtain rfl:=hasAllW_nil h2
 obtain⟨xs,rfl,h3⟩:=hasW_list h1
 obtain⟨ns,rfl⟩:=items_int h3
 have hlen:ns.length<=n:=by
  unfold OpenLaw.pre at hc
  have h4:(WTm.not (.lt (.lit (.int (n:Int))) (.len (.arg 0)))).holds [] { args:=[.list (ns.map .int)] }=true:=by
   have h4:=(holds_andW hc).1
   rw[hn] at h4
   exact h4
  have h5:=condW_of h4 (w_not (w_lt w_lit (w_len_list (w_arg rfl))))
  rw[zts] at h5
  refine Nat.le_of_not_lt fun q=>?_
  have q':(n:Int)<((ns.length:Nat):Int):=by omega
  first
   | (rw[decide_eq_true q'] at h5;exact absurd h5 (by decide))
   | (simp at h5;omega)
 cases hwl with
 | cons w1 w2 =>
  cases w2
  cases w1 with
  | list ho hall=>exact⟨_,_,ns,rfl,rfl,ho,Jw ns _ hall,hlen⟩
theorem zhM (l:OpenLaw)(args:List WData):l.row.toRowW.claim.post args (.bool true) args=true :=
 postW_of (r:=l.row.toRowW) (X:=(true==true))
  (show WShape.has [] (.bool true) .bool=true by first | rfl | decide | simp[WShape.has,WShape.arms,WShape.armsAll])
  (show(WTm.eq .res (.lit (.bool true))).value [] { args:=args,res:=some (.bool true),after:=args }=some (.bool (true==true)) from w_eq_bool (w_res rfl) w_lit) rfl
theorem zed {l:OpenLaw}{n:Nat}{q:Program}{loose:List Str}{XP:(Str->Option Value)->Heap->Prop}{YP:World->Heap->Prop}{d:DefRec}
  (hn:l.most=some n)(hdf:d.params.defaults=[])
  (call:∀(w:World) (s₀ s₁:Shared) (mg mb:Str->Option Value) (fa:Addr) (o:Obj) (pm cd doc:Value) (a:Addr) (vs:List Value) (ns:List Int),
   Ground q loose [] XP w s₀ mg mb s₁.heap->YP w s₁.heap ->
   s₁.heap.get? fa=some o->o.data=.func (docDef d.name d.params d.body d.scope pm cd doc)->s₁.heap.CodeRec cd d.name->mg d.name=some (.ref fa) ->
   s₁.heap.get? a=some { cls:=.type "list", data:=.seq vs.toArray }->IntsAre vs ns->ns.length<=n->s₁.gens=#[] ->
   codeAny (model l.prog w) callerA (.call (.ref fa) ⟨[.ref a],[]⟩) (fun r s'=>r=.ok (.ret (.bool true))/\OldK s₁.heap s'.heap/\s'.os=s₁.os/\AllBare s'.gens) s₁) :
  WalkO q loose XP YP l.row.toRowW d [] (fun f vs=>PySem.call f vs):=by
 intro w s₀ s₁ mg mb G Y fa o pm cd doc dV kV ho hd hcd hD hmg hg args vals as hpre hlay hrd hwl hlo
 obtain rfl:dV=.none:=Dflts.none hD hdf
 obtain rfl:kV=.none:=Dflts.noKw hD
 obtain⟨a,vs,ns,rfl,rfl,hobj,hints,hlen⟩:=zhL hn hpre hwl
 refine enter_call (codeAny_mono (call w s₀ s₁ mg mb fa o pm cd doc a vs ns G Y ho (fd_plain hd) hcd hmg hobj hints hlen hg) fun r s' hq=>?_)
 obtain⟨rfl,h2,h3,h4⟩:=hq
 exact⟨.inl ⟨.bool true,.bool true,[],rfl,fun _=>rfl,.bool true,zhM l _,fun _=>⟨List.Pairwise.nil,fun _ hm=>(nomatch hm)⟩⟩,h2,h3,h4⟩
end Att
namespace L2
open PySem PySem.Spec PyProof.Rows
theorem zb6:∀{vs:List Value} {ns:List Int},IntsAre vs ns->Vals (ns.map V.int) vs
 | _,_,.nil=>.nil
 | _,_,.cons n t h=>.cons ⟨t,rfl⟩ (zb6 h)
def Only (H:Hp):Prop:=∀b,H b=none\/∃o xs,H b=some (.KY o (.lst xs))
theorem ziP {P:Program}{w:World}{K:Frag}{mg mb:Str->Option Value}{CX:CXT}{k:Nat}{fa a:Addr}{fd:FuncData}{x:Str}{sp:Sp}{s₁:Shared}{vs:List Value}{ns:List Int}
  (KX:K.In s₁.heap)(hns:s₁.heap.Ns mainGlobals mg)(hb:s₁.heap.Ns builtinsNs mb)(hbb:∀x:Str,x ≠ "__name__" -> mb x=bootBuiltins x)(hlim:s₁.heap.NoLimit)(hg:s₁.gens=#[])
  (ha:s₁.heap.get? a=some { cls:=.type "list", data:=.seq vs.toArray })(hi:IntsAre vs ns)(hl:ns.length<=sizeLine)(hr:Zh k callerA)
  (F:∀base:Heap,K.In base->base.Ns mainGlobals mg->zE P w K mg base CX k fa fd [x] sp)(hbind:∀(s:Shared) (u:Value),BindsTo s fd ⟨[u],[]⟩ [(x,u)])
  (hsp:∀H:Hp,Only H->zP K H a (ns.map V.int)->sp [.ref a] H (fun v _=>v=.bl true) fun _ _ _=>False)
  (hCX:∀H e s',CX [] H s₁ (fun _ _ _=>False) e s'->False) :
  codeAny (model P w) callerA (.call (.ref fa) ⟨[.ref a],[]⟩) (fun r s'=>r=.ok (.ret (.bool true))/\OldK s₁.heap s'.heap/\s'.os=s₁.os/\AllBare s'.gens) s₁:=by
 have rv:=zb6 hi
 have lenV:=hi.length
 have core:∀H:Hp,Only H->zP K H a (ns.map V.int)->QC P w H s₁.heap->(∀b,H b≠none->b=a)->(H a≠none->K.lookup a=none) ->
   codeAny (model P w) callerA (.call (.ref fa) ⟨[.ref a],[]⟩) (fun r s'=>r=.ok (.ret (.bool true))/\OldK s₁.heap s'.heap/\s'.os=s₁.os/\AllBare s'.gens) s₁:=by
  intro H hO hS hok hA hK
  have zgO:∀{b:Addr} {o:Obj},s₁.heap.get? b=some o->H b=none->(zcI s₁.heap H).get? b=some o:=fun e n=>ziz e n
  have noA:∀{b:Addr} {o:Obj} {es:Array DictEntry} {ep:Nat},s₁.heap.get? b=some o->o.data=.dict es ep->H b=none:=fun {b o es ep} e d=>by
   cases q:H b with
   | none=>rfl
   | some u =>
    have e':b=a:=hA b (by rw[q];simp)
    subst e'
    rw[ha] at e;cases e
    have d':Data.seq vs.toArray _=Data.dict es ep:=d
    cases d'
  have nsK:∀{b:Addr} {m:Str->Option Value},s₁.heap.Ns b m->(zcI s₁.heap H).Ns b m:=fun {b m} ⟨o,es,ep,e,d,r⟩=>⟨o,es,ep,zgO e (noA e d),d,r⟩
  have hKb:K.In (zcI s₁.heap H):=fun b o e=>zgO (KX b o e) (by
   cases q:H b with
   | none=>rfl
   | some u =>
    have e':b=a:=hA b (by rw[q];simp)
    subst e'
    rw[hK (by rw[q];simp)] at e;cases e)
  have hM:Mod K mg (zcI s₁.heap H):=⟨hKb,nsK hns,⟨mb,nsK hb,hbb⟩,let ⟨mc,h1,h2⟩:=hlim;⟨mc,nsK h1,h2⟩⟩
  have e0:zfE P w K mg (zcI s₁.heap H) callerA [] s₁ H:=⟨rfl,hM,fun b o e=>zkl e,Nat.le_of_eq (zhx _ _),trivial,fun b hb=>absurd (show b∈([]:List Addr) from hb) (by simp),hok,.of_eq hg⟩
  refine codeAny_mono ((F _ hKb (nsK hns)).run callerA [] s₁ H ⟨[.ref a],[]⟩ [.ref a] [.ref a] _ _ hr e0 (hbind s₁ (.ref a)) (.cons rfl .nil) (hsp H hO hS)) fun r s' h=>?_
  cases r with
  | error e=>exact(hCX H e s' h).elim
  | ok fl =>
   cases fl with
   | next=>exact False.elim h
   | brk=>exact False.elim h
   | cont=>exact False.elim h
   | ret u =>
    obtain⟨v,H',os,bare,un,hok',r',q⟩:=h
    have q':v=.bl true:=q
    subst q'
    obtain rfl:u=Value.bool true:=r'
    refine⟨rfl,OldK.of_keep fun b o e=>?_,os,bare⟩
    cases q:H b with
    | none=>exact un.keep b o e q (by intro z;exact absurd (show b∈([]:List Addr) from z) (by simp)) (by simp)
    | some u =>
     rcases hO b with z | ⟨ob,xs,z⟩
     ·rw[q] at z;cases z
     ·have z2:=un.zbr b ob _ z
      obtain⟨e1,_⟩:=hok b _ z
      obtain⟨e2,_⟩:=hok' b _ z2
      rw[e] at e1;cases e1
      exact e2
 cases hk:K.lookup a with
 | some o =>
  have e:=KX a o hk
  rw[ha] at e
  cases e
  refine core (fun _=>none) (fun _=>.inl rfl) (.inr ⟨_,vs.toArray,_,hk,rfl,rfl,rfl,by rw[ztC,lenV];exact hl,by simpa using rv⟩) (fun b u z=>by have z':(none:Option HO)=some u:=z;cases z') (fun b z=>absurd rfl z) fun z=>absurd rfl z
 | none =>
  refine core (fun b=>if b=a then some (.KY { cls:=.type "list", data:=.seq vs.toArray } (.lst (ns.map V.int))) else none) (fun b=>?_) (.inl (.inr ⟨{ cls:=.type "list", data:=.seq vs.toArray },if_pos rfl⟩)) (fun b u z=>?_) (fun b z=>?_) fun _=>hk
  ·by_cases hb:b=a
   ·exact .inr ⟨_,_,if_pos hb⟩
   ·exact .inl (if_neg hb)
  ·by_cases hb:b=a
   ·have z':=(if_pos hb).symm.trans z
    cases z'
    subst hb
    exact⟨ha,by rw[zts];exact hl,vs,_,rv,ha⟩
   ·have z':=(if_neg hb).symm.trans z
    cases z'
  ·by_cases hb:b=a
   ·exact hb
   ·exact absurd (if_neg hb) z
abbrev KOf {K:Frag}{h:Heap}(_:K.In h):Frag:=K
theorem zkB {l:PySem.W.OpenLaw}{n k:Nat}{q:Program}{loose:List Str}{XP:(Str->Option Value)->Heap->Prop}{YP:World->Heap->Prop}{d:DefRec}{K:Params->Frag}{CX:World->CXT}{sp:World->Sp}{x:Str}
  (hn:l.most=some n)(hn2:n<=sizeLine)(hdf:d.params.defaults=[])(hr:Zh k callerA)
  (hY:∀(w:World) (h:Heap),YP w h->(K w.params).In h)
  (F:∀(w:World) (mg:Str->Option Value) (fa:Addr) (h:Heap),(K w.params).In h->h.Ns mainGlobals mg->mg d.name=some (.ref fa) ->
   ∃fd:FuncData,(∀(s:Shared) (u:Value),BindsTo s fd ⟨[u],[]⟩ [(x,u)]) /\
    ∀base:Heap,(K w.params).In base->base.Ns mainGlobals mg->zE l.prog w (K w.params) mg base (CX w) k fa fd [x] (sp w))
  (hsp:∀(w:World) (H:Hp) (a:Addr) (ns:List Int),ns.length<=n->Only H->zP (K w.params) H a (ns.map V.int)->sp w [.ref a] H (fun v _=>v=.bl true) fun _ _ _=>False)
  (hCX:∀(w:World) (H:Hp) (s:Shared) (e:Value) (s':Shared),CX w [] H s (fun _ _ _=>False) e s'->False) :
  PySem.W.WalkO q loose XP YP l.row.toRowW d [] (fun f vs=>PySem.call f vs):=by
 refine Att.zed hn hdf fun w s₀ s₁ mg mb fa o pm cd doc a vs ns G Y ho hd hcd hmg hobj hints hlen hg=>?_
 have KX:=hY w _ Y
 obtain⟨fd,hb,hF⟩:=F w mg fa _ KX G.T.g hmg
 exact ziP KX G.T.g G.T.b G.T.builtins G.T.nolimit hg hobj hints (ztO hlen hn2) hr hF hb (fun H hO hS=>hsp w H a ns hlen hO hS) fun H e s'=>hCX w H s₁ e s'
theorem ziQ {l:PySem.W.OpenLaw}{n k:Nat}{q:Program}{loose:List Str}{XP:(Str->Option Value)->Heap->Prop}{YP:World->Heap->Prop}{d:DefRec}{K:Params->Frag}{CX:CXT}{sp:Frag->Sp}{x:Str}
  (hn:l.most=some n)(hn2:n<=sizeLine)(hdf:d.params.defaults=[])(hr:Zh k callerA)
  (hY:∀(w:World) (h:Heap),YP w h->(K w.params).In h)
  (F:∀(w:World) (mg:Str->Option Value) (fa:Addr) (h:Heap),(K w.params).In h->h.Ns mainGlobals mg->mg d.name=some (.ref fa) ->
   ∃fd:FuncData,(∀(s:Shared) (u:Value),BindsTo s fd ⟨[u],[]⟩ [(x,u)]) /\
    ∀base:Heap,(K w.params).In base->base.Ns mainGlobals mg->zE l.prog w (K w.params) mg base CX k fa fd [x] (sp (K w.params)))
  (hsp:∀(K:Frag) (H:Hp) (a:Addr) (ns:List Int),ns.length<=n->Only H->zP K H a (ns.map V.int)->sp K [.ref a] H (fun v _=>v=.bl true) fun _ _ _=>False)
  (hCX:∀(H:Hp) (s:Shared) (e:Value) (s':Shared),CX [] H s (fun _ _ _=>False) e s'->False) :
  PySem.W.WalkO q loose XP YP l.row.toRowW d [] (fun f vs=>PySem.call f vs) :=
 zkB (K:=K) (CX:=fun _=>CX) (sp:=fun w=>sp (K w.params)) hn hn2 hdf hr hY F (fun w H a ns h1 h2 h3=>hsp (K w.params) H a ns h1 h2 h3) fun _ H s e s'=>hCX H s e s'
def inClass (s:Stmt)(j:Nat):Stmt:=match s with
 | .ClassDef _ _ _ body _ _ _ _ _ _ _=>body.getD j (.Pass ⟨0,0,0,0⟩)
 | _=>.Pass ⟨0,0,0,0⟩
def Yz (s:Stmt):Arguments:=match s with
 | .FunctionDef _ a _ _ _ _ _ _ _ _=>a
 | _=>{ posonlyargs:=[],args:=[],vararg:=none,kwonlyargs:=[],kw_defaults:=[],kwarg:=none,defaults:=[] }
def uc (s:Stmt):List Stmt:=match s with
 | .FunctionDef _ _ b _ _ _ _ _ _ _=>b
 | _=>[]
def zq (s:Stmt):Scope:=match s with
 | .FunctionDef _ _ _ _ _ _ sc _ _ _=>sc
 | _=>{ kind:=.function,names:=[],isGenerator:=false,isCoroutine:=false }
abbrev zW:CXT:=fun _ _ _ _ _ _=>False
abbrev E0:XK:=fun _ _ _=>False
theorem zgP {X:Cx}:Passes zW X E0:=fun _ _ _ _ _ _ _ h=>h.elim
structure Fun (K:Frag)(x qual:Str)(st:Stmt)(f:Addr)(fd:FuncData):Prop where
 ex:∃(oc:Value) (od:Option Addr) (kV doc pm:Value) (an:Option Addr) (cdv ct:Value) (osl:Array (Option Value)),
  fd=PySem.W.fnOf x qual (Yz st) (uc st) (zq st) .none kV doc pm an cdv ct/\K.lookup f=some ⟨oc,od,.func fd,osl⟩/\PySem.W.codeIn K cdv qual=true
 kp:PySem.W.keepIn K (.ref f)=true
section
variable {P:Program}{w:World}{K:Frag}{mg:Str->Option Value}{base:Heap}
theorem Fun.ok {x qual:Str}{st:Stmt}{f:Addr}{fd:FuncData}{N ps:List Str}{k:Nat}{sp:Sp}(F:Fun K x qual st f fd)(S:zK N ps (zq st))(len:∀vs H Q E,sp vs H Q E->vs.length=ps.length)
  (hbody:∀(cdv:Value) (A:Around) (outer:List Env) (s:Shared) (H:Hp) (vs:List V) (Q:VK) (E:XK),Zh k (A.deeper (envOfC qual (zq st) s.heap.objs.size f cdv))->sp vs H Q E ->
   ∃t,PSs (zhJ zW P w K mg base N qual (zq st) f cdv A outer s H E).nox (uc st) t/\t { nx:=fun _ H'=>Q .non H',rt:=Q } (start N vs) H):zE P w K mg base zW (k+1) f fd ps sp:=by
 obtain⟨oc,od,kV,doc,pm,an,cdv,ct,osl,rfl,lk,hcd⟩:=F.ex
 refine znB lk hcd S len fun A outer s H vs Q E hr hsp=>?_
 obtain⟨t,h,q⟩:=hbody cdv A outer s H vs Q E hr hsp
 exact⟨t,h.nox,q⟩
theorem Fun.binds {x qual:Str}{st:Stmt}{f:Addr}{fd:FuncData}{ps:List Str}(F:Fun K x qual st f fd)
  (h:∀(kV doc pm:Value) (an:Option Addr) (cdv ct:Value) (us:List Value),us.length=ps.length->bindArgs (PySem.W.fnOf x qual (Yz st) (uc st) (zq st) .none kV doc pm an cdv ct) ⟨us,[]⟩=pure (ps.zip us)):Binds K fd ps []:=by
 obtain⟨oc,od,kV,doc,pm,an,cdv,ct,osl,rfl,lk,hcd⟩:=F.ex
 exact .all (h kV doc pm an cdv ct)
theorem zcU {x qual:Str}{st:Stmt}{f:Addr}{oc:Value}{od an:Option Addr}{osl:Array (Option Value)}{kV doc pm cdv ct:Value}(l:K.lookup f=some ⟨oc,od,.func (PySem.W.fnOf x qual (Yz st) (uc st) (zq st) .none kV doc pm an cdv ct),osl⟩)
  (c:PySem.W.codeIn K cdv qual=true)(k:PySem.W.keepIn K (.ref f)=true):Fun K x qual st f (PySem.W.fnOf x qual (Yz st) (uc st) (zq st) .none kV doc pm an cdv ct):=⟨⟨oc,od,kV,doc,pm,an,cdv,ct,osl,rfl,l,c⟩,k⟩
end
theorem zb7 {A:Around}{k:Nat}(hr:Zh k A):A.units+1<cLine:=Nat.lt_of_le_of_lt (Nat.add_le_add_left (by decide:1<=64) _) hr.units
theorem zN {n:Nat}(h:n<=1000):n<sizeLine:=Nat.lt_of_le_of_lt h (by decide)
section
variable {X:Cx}
theorem pv (i:Nat){x:Str}{pos:Pos}(hN:X.N[i]?=some x:=by rfl)(hv:Vis X.env.scope x:=by first | exact Or.inl rfl | exact Or.inr (Or.inl rfl) | exact Or.inr (Or.inr rfl))(hd:(x==("__debug__" : Str))=false:=by decide)
  (hcd:(x==("__classdict__" : Str))=false:=by decide):PE X (.Name x pos) (Sg i):=zmk hN hv hd hcd
end
theorem Zi {A B:Prop}(h:B):if false=true then A else B:=by
 rw[if_neg ztw]
 exact h
theorem Xi {A B:Prop}(h:A):if true=true then A else B:=by
 rw[if_pos rfl]
 exact h
theorem z8 {c A B:Prop}[Decidable c](h1:c->A)(h2:¬c->B):if c then A else B:=by
 by_cases h:c
 ·rw[if_pos h]
  exact h1 h
 ·rw[if_neg h]
  exact h2 h
theorem znE {c A B:Prop}[Decidable c](hc:c)(h:B):if (!decide c)=true then A else B:=by
 rw[decide_eq_true hc]
 exact Zi h
def Same (H H':Hp):Prop:=∀b o,H b=some o->H' b=some o
theorem Same.refl (H:Hp):Same H H:=fun _ _ h=>h
theorem Same.trans {H H1 H2:Hp}(a:Same H H1)(b:Same H1 H2):Same H H2:=fun c o h=>b c o (a c o h)
theorem Same.free {H H':Hp}(e:Same H H'){l:Addr}(h:H' l=Option.none):H l=Option.none:=by
 cases q:H l with
 | none=>rfl
 | some o =>
  rw[e l o q] at h
  cases h
theorem Same.seq {K:Frag}{H H':Hp}{a:Addr}{xs:List V}(e:Same H H')(h:zP K H a xs):zP K H' a xs:=by
 rcases h with (h | ⟨o,h⟩) | h
 ·exact .inl (.inl (e _ _ h))
 ·exact .inl (.inr ⟨o,e _ _ h⟩)
 ·exact .inr h
end L2
set_option maxHeartbeats 8000000
namespace L2
open PySem PySem.Spec PyProof.Rows
section
variable {X:Cx}{pins:List (Addr×Obj)}{σ:St}{H:Hp}{s:Shared}
theorem QC.track {P:Program}{w:World}{H:Hp}{h:Heap}{a:Addr}{o:HO}(x:QC P w H h)(hn:H a=none)(new:xO P w (upd H a o) h a o):QC P w (upd H a o) h:=fun b u e=>by
 by_cases hb:b=a
 ·subst hb
  rw[zf] at e
  cases e
  exact new
 ·rw[zB hb] at e
  refine(x b u e).stay (fun _ _ _ q=>q) (fun c q=>?_) (fun c xs q=>?_) fun c ob v q=>?_
  ·rw[zB (zy q hn)];exact q
  ·rw[zB (zy q hn)];exact q
  ·rw[zB (zy q hn)];exact q
theorem Inv.track {a:Addr}{o:HO}(I:Inv X pins σ H s)(hn:H a=none)(hL:a≠X.env.locals)(h0:X.s₀.heap.objs.size<=a)(hc:∀x c,X.env.cells.lookup x=some c->c≠a)(hp:∀p∈X.pn++pins,p.1≠a)
  (new:xO X.prog X.w (upd H a o) s.heap a o):Inv X pins σ (upd H a o) s:=by
 have old:∀b ob,X.s₀.heap.get? b=some ob->b≠a:=fun b ob e=>ztH (ztB (ztz e) h0)
 refine⟨I.ok,I.os,I.bare,⟨fun b ob e n=>I.base.keep b ob e n,fun b ob e n=>I.base.slot b ob e n,fun b ob e n hx=>?_,fun b ob e hx=>I.base.there b ob e hx,fun b xs e=>?_,fun b ob u e=>?_,fun b ps e=>?_⟩,I.loc,I.cell,?_,fun x c e=>?_,fun p hm=>?_,I.hok.track hn new,I.len⟩
 ·rw[zB (old b ob e)];exact I.base.free b ob e n hx
 ·have q:=I.base.tups b xs e
  rw[zB (zy q hn)];exact q
 ·have q:=I.base.zbr b ob u e
  rw[zB (zy q hn)];exact q
 ·obtain⟨mo,q⟩:=I.base.zcH b ps e
  exact⟨mo,by rw[zB (zy q hn)];exact q⟩
 ·rw[zB (Ne.symm hL)];exact I.free
 ·rw[zB (hc x c e)];exact I.Tz x c e
 ·obtain⟨z1,z2,z3⟩:=I.pin p hm
  exact⟨z1,by rw[zB (hp p hm)];exact z2,z3⟩
end
def clo:List (Str×NameKind)->List (Str×Addr)->List (Str×Addr)->List (Str×Addr)
 | [],_,acc=>acc
 | (n,k)::r,cells,acc=>clo r cells (if k==.free then (match cells.lookup n with | some c=>(n,c)::acc | none=>acc) else acc)
theorem V3 (cells:List (Str×Addr)):∀(names:List (Str×NameKind)) (acc:List (Str×Addr)),(∀y c,acc.lookup y=some c->cells.lookup y=some c)->∀y c,(clo names cells acc).lookup y=some c->cells.lookup y=some c
 | [],acc,h=>h
 | (n,k)::r,acc,h=>by
  refine V3 cells r _ fun y c e=>?_
  cases hk:k==NameKind.free with
  | false=>rw[hk] at e;exact h y c e
  | true =>
   rw[hk,if_pos rfl] at e
   cases hc:cells.lookup n with
   | none=>rw[hc] at e;exact h y c e
   | some a =>
    rw[hc] at e
    have e':(((n,a)::acc).lookup y)=some c:=e
    rw[ztS] at e'
    cases hy:y==n with
    | true =>
     rw[hy] at e'
     have z:y=n:=by simpa using hy
     subst z
     rw[hc];exact e'
    | false=>rw[hy] at e';exact h y c e'
theorem zb8 (cells:List (Str×Addr)):∀(names:List (Str×NameKind)) (acc:List (Str×Addr)) (y:Str),(acc.lookup y).isSome=true->((clo names cells acc).lookup y).isSome=true
 | [],_,_,h=>h
 | (n,k)::r,acc,y,h=>by
  refine zb8 cells r _ y ?_
  cases hk:k==NameKind.free with
  | false=>exact h
  | true =>
   rw[if_pos rfl]
   cases hc:cells.lookup n with
   | none=>exact h
   | some a =>
    show(((n,a)::acc).lookup y).isSome=true
    rw[ztS]
    cases hy:y==n with
    | true=>rfl
    | false=>exact h
theorem zcV (cells:List (Str×Addr)):∀(names:List (Str×NameKind)) (acc:List (Str×Addr)) (y:Str),(y,NameKind.free)∈names->(cells.lookup y).isSome=true->((clo names cells acc).lookup y).isSome=true
 | [],_,_,h,_=>by cases h
 | (n,k)::r,acc,y,h,hs=>by
  rcases List.mem_cons.mp h with e | h
  ·cases e
   refine zb8 cells r _ n ?_
   show(((match cells.lookup n with | some c=>(n,c)::acc | none=>acc)).lookup n).isSome=true
   cases hc:cells.lookup n with
   | none=>rw[hc] at hs;cases hs
   | some a =>
    show(((n,a)::acc).lookup n).isSome=true
    rw[ztS]
    simp
  ·exact zcV cells r _ y h hs
theorem zgQ {env:Env}:∀(names:List (Str×NameKind)) (acc:List (Str×Addr)),(∀y,(y,NameKind.free)∈names->(env.cells.lookup y).isSome=true) ->
  (forIn names acc fun(x:Str×NameKind) (cs:List (Str×Addr))=>if (x.2==NameKind.free)=true then do let c <-cellOf env x.1;pure (ForInStep.yield ((x.1,c)::cs)) else pure (ForInStep.yield cs):Sem (List (Str×Addr)))=pure (clo names env.cells acc)
 | [],acc,_=>rfl
 | (n,k)::r,acc,h=>by
  have ih:=fun acc'=>zgQ (env:=env) r acc' fun y hy=>h y (ztD _ hy)
  rw[List.forIn_cons]
  cases hk:k==NameKind.free with
  | false =>
   show((pure (ForInStep.yield acc):Sem _)>>=_)=_
   rw[pure_bind]
   show(forIn r acc _:Sem _)=_
   rw[ih acc]
   show pure (clo r env.cells acc)=pure (clo r env.cells (if (k==NameKind.free)=true then (match env.cells.lookup n with | some c=>(n,c)::acc | none=>acc) else acc))
   rw[hk];rfl
  | true =>
   have hkf:k=NameKind.free:=by simpa using hk
   subst hkf
   have hs:=h n ztM
   cases hc:env.cells.lookup n with
   | none=>rw[hc] at hs;cases hs
   | some a =>
    have hcell:cellOf env n=pure a:=by unfold cellOf;rw[hc]
    show((cellOf env n>>=fun c=>(pure (ForInStep.yield ((n,c)::acc)):Sem _))>>=_)=_
    rw[hcell,pure_bind,pure_bind]
    show(forIn r ((n,a)::acc) _:Sem _)=_
    rw[ih]
    show pure (clo r env.cells ((n,a)::acc))=pure (clo r env.cells (match env.cells.lookup n with | some c=>(n,c)::acc | none=>acc))
    rw[hc]
theorem zfJ {sc:Scope}{env:Env}(h:∀y,(y,NameKind.free)∈sc.names->(env.cells.lookup y).isSome=true):closureFor sc env=pure (clo sc.names env.cells []):=by
 unfold closureFor
 have:=zgQ (env:=env) sc.names [] h
 simpa using this
structure uZ (wO sc:Scope)(x:Str)(fv:List Str):Prop where
 kind:sc.kind=.function
 Uv:∀y∈sc.names,y.2≠.cell
 names:∀y∈sc.names,y.2=.local->sc.names.lookup y.1=some .local
 hx:sc.names.lookup x=some .local
 fr:∀y∈sc.names,y.2=.free->wO.names.lookup y.1=some .cell\/wO.names.lookup y.1=some .free
 fvs:∀y∈fv,sc.names.lookup y=some .free/\(wO.names.lookup y=some .cell\/wO.names.lookup y=some .free)
 nd:(x::fv).Nodup
abbrev Cx.blk (X:Cx)(sc:Scope)(cl:List (Str×Addr))(C:Addr)(N:List Str)(s:Shared)(H:Hp)(fp:List Addr):Cx :=
 {X with N:=N,s₀:=s,H₀:=H,env:=compEnvC sc cl C X.env,outer:=X.stack,ex:=fp,fn:=fun _=>false,pn:=[],xe:=fun _ _=>False }
abbrev lcN (X:Cx)(x:Str)(js:List Nat):List Str:=x::js.map fun j=>X.N.getD j ""
abbrev Zj (σ:St)(js:List Nat)(x:Option V):St:=x::js.map fun j=>σ.getD j none
theorem Xx {env:Env}:∀{names:List (Str×NameKind)} {y:Str} {k:NameKind},(names.map fun(n,k)=>if (k==NameKind.free&&env.scope.kind==.function&&env.kindOf n==some .cell) then (n,NameKind.cell) else (n,k)).lookup y=some k->(k=.cell\/k=.free)->(∀z∈names,z.2≠.cell)->(y,NameKind.free)∈names
 | [],_,_,h,_,_=>by simp at h
 | (n,k')::r,y,k,h,hk,hn=>by
  by_cases hc:(k'==NameKind.free&&env.scope.kind==.function&&env.kindOf n==some .cell)=true
  ·have hk':k'=NameKind.free:=by
    rw[ztU,ztU] at hc
    simpa using hc.1.1
   subst hk'
   rw[ztR] at h
   cases hy:y==n with
   | true =>
    have z:y=n:=by simpa using hy
    subst z
    exact ztM
   | false =>
    have h':List.lookup y ((if (NameKind.free==NameKind.free&&env.scope.kind==.function&&env.kindOf n==some .cell)=true then (n,NameKind.cell) else (n,NameKind.free))::(r.map fun(n,k)=>if (k==NameKind.free&&env.scope.kind==.function&&env.kindOf n==some .cell) then (n,NameKind.cell) else (n,k)))=some k:=h
    rw[if_pos hc,ztS,hy] at h'
    exact ztD _ (Xx h' hk fun z hz=>hn z (ztD _ hz))
  ·have h':List.lookup y ((if (k'==NameKind.free&&env.scope.kind==.function&&env.kindOf n==some .cell)=true then (n,NameKind.cell) else (n,k'))::(r.map fun(n,k)=>if (k==NameKind.free&&env.scope.kind==.function&&env.kindOf n==some .cell) then (n,NameKind.cell) else (n,k)))=some k:=h
   rw[if_neg hc,ztS] at h'
   cases hy:y==n with
   | true =>
    rw[hy] at h'
    cases h'
    have z:y=n:=by simpa using hy
    subst z
    rcases hk with e | e
    ·exact absurd e (hn _ ztM)
    ·subst e;exact ztM
   | false =>
    rw[hy] at h'
    exact ztD _ (Xx h' hk fun z hz=>hn z (ztD _ hz))
theorem zao {env:Env}:∀{names:List (Str×NameKind)} {y:Str},names.lookup y=some .free->(names.map fun(n,k)=>if (k==NameKind.free&&env.scope.kind==.function&&env.kindOf n==some .cell) then (n,NameKind.cell) else (n,k)).lookup y=some .cell\/(names.map fun(n,k)=>if (k==NameKind.free&&env.scope.kind==.function&&env.kindOf n==some .cell) then (n,NameKind.cell) else (n,k)).lookup y=some .free
 | [],_,h=>by simp at h
 | (n,k')::r,y,h=>by
  rw[ztS] at h
  rw[ztR]
  cases hy:y==n with
  | true =>
   rw[hy] at h
   cases h
   by_cases hc:(NameKind.free==NameKind.free&&env.scope.kind==.function&&env.kindOf n==some .cell)=true
   ·refine .inl ?_
    show List.lookup y ((if (NameKind.free==NameKind.free&&env.scope.kind==.function&&env.kindOf n==some .cell)=true then (n,NameKind.cell) else (n,NameKind.free))::_)=_
    rw[if_pos hc,ztS,hy]
   ·refine .inr ?_
    show List.lookup y ((if (NameKind.free==NameKind.free&&env.scope.kind==.function&&env.kindOf n==some .cell)=true then (n,NameKind.cell) else (n,NameKind.free))::_)=_
    rw[if_neg hc,ztS,hy]
  | false =>
   rw[hy] at h
   have ih:=zao (env:=env) h
   by_cases hc:(k'==NameKind.free&&env.scope.kind==.function&&env.kindOf n==some .cell)=true
   ·show List.lookup y ((if (k'==NameKind.free&&env.scope.kind==.function&&env.kindOf n==some .cell)=true then (n,NameKind.cell) else (n,k'))::_)=_\/List.lookup y ((if (k'==NameKind.free&&env.scope.kind==.function&&env.kindOf n==some .cell)=true then (n,NameKind.cell) else (n,k'))::_)=_
    rw[if_pos hc,ztS,hy]
    exact ih
   ·show List.lookup y ((if (k'==NameKind.free&&env.scope.kind==.function&&env.kindOf n==some .cell)=true then (n,NameKind.cell) else (n,k'))::_)=_\/List.lookup y ((if (k'==NameKind.free&&env.scope.kind==.function&&env.kindOf n==some .cell)=true then (n,NameKind.cell) else (n,k'))::_)=_
    rw[if_neg hc,ztS,hy]
    exact ih
abbrev v9 (its:List Value)(n:Nat):Obj:={ cls:=.type "list", data:=.seq its.toArray n }
abbrev YB (ifs:List Expr)(env:Env):Sem Bool :=
 forIn ifs true fun c r=>if r=true then do let ok <-isTrue c env (eval c env);pure (ForInStep.yield ok) else pure (ForInStep.yield r)
def tLC (wi:TI)(js:List Nat)(tt:TT)(te:TE):TE:=fun σ H Q=>wi σ H fun J H1=>∃W:Nat->Nat->List V->Hp->Prop,(∃m,W 0 m [] H1)/\∀i m ys H,W i m ys H ->
 (J.stop i H/\∀p,H p=none->Q (.ref p) (upd H p (.lst ys))) \/
 (J.go i H/\ys.length<sizeLine/\∀x H',J.R7 i H x H'->tt (Zj σ js (some x)) H' fun b H2 =>
  if b=true then te (Zj σ js (some x)) H2 fun v H3=>∃m',m'<m/\W (i+1) m' (ys++[v]) H3 else ∃m',m'<m/\W (i+1) m' ys H2)
section
variable {X:Cx}{sc wO:Scope}{x:Str}{js:List Nat}{elt iter:Expr}{px pos:Pos}{ifs:List Expr}{wi:TI}{tt:TT}{te:TE}
theorem zkC {P:Program}{w:World}{A:Around}{R:Result->Shared->Prop}{st:Shared}{tg it acc}{cenv:Env}(Iv:Nat->Shared->Prop)
  (step:∀k st,Iv k st->wpAny (model P w) A (pyNext it) (fun got s1=>match got with
   | none=>R (.ok .next) s1
   | some v=>wpAny (model P w) A (letOwnedTupleGo tg it v) (fun _ s2=>wpAny (model P w) A (assign tg cenv v) (fun _ s3 =>
     wpAny (model P w) A (YB ifs cenv) (fun ok s4=>if ok=true then wpAny (model P w) A (eval elt cenv) (fun y s5 =>
       wpAny (model P w) A (call (.builtin "list.append") [acc,y]) (fun _ s6=>∃k',k'<k/\Iv k' s6) (notedBy (model P w) A cenv fun e z=>R (.error e) z) s5) (notedBy (model P w) A cenv fun e z=>R (.error e) z) s4
      else ∃k',k'<k/\Iv k' s4) (notedBy (model P w) A cenv fun e z=>R (.error e) z) s3) (notedBy (model P w) A cenv fun e z=>R (.error e) z) s2) (notedBy (model P w) A cenv fun e z=>R (.error e) z) s1)
   (notedBy (model P w) A cenv fun e z=>R (.error e) z) st)(k0:Nat)(h0:Iv k0 st) :
  codeAny (model P w) A (.compLoop (.ListComp elt [⟨tg,iter,ifs,0⟩] sc pos) 0 it acc cenv) R st:=by
 refine codeAny_loop rfl Iv (fun k st hk=>?_) k0 h0
 show wpAny _ A ((compTurn (.ListComp elt [⟨tg,iter,ifs,0⟩] sc pos) 0 it acc cenv).onRaise (fun e=>do noteFrame e cenv;theTreesLotGoes e)) _ _ st
 refine wpAny_noted ?_
 rw[compTurn_list]
 refine wpAny_bind (wpAny_standAt (wpAny_bind (wpAny_mono (step k st hk) (fun got s1 h1=>?_) fun _ _ z=>z)))
 cases got with
 | none=>exact wpAny_pure h1
 | some v =>
  refine wpAny_bind (wpAny_mono h1 (fun _ s2 h2=>?_) fun _ _ z=>z)
  refine wpAny_bind (wpAny_mono h2 (fun _ s3 h3=>wpAny_bind (wpAny_mono h3 (fun ok s4 h4=>?_) fun _ _ z=>z)) fun _ _ z=>z)
  cases ok with
  | false=>exact wpAny_pure ⟨rfl,h4⟩
  | true=>exact wpAny_bind (wpAny_bind (wpAny_mono h4 (fun y s5 h5=>wpAny_bind (wpAny_mono h5 (fun _ s6 h6=>wpAny_pure (wpAny_pure ⟨rfl,h6⟩)) fun _ _ z=>z)) fun _ _ z=>z))
structure Own (X:Cx)(pins:List (Addr×Obj))(H:Hp)(a:Addr):Prop where
 free:H a=none
 loc:a≠X.env.locals
 new:X.s₀.heap.objs.size<=a
 cel:∀x c,X.env.cells.lookup x=some c->c≠a
 pin:∀p∈X.pn++pins,p.1≠a
 fs:a∉X.fs
end
structure zee (wO sc:Scope)(xs:List Str)(fv:List Str):Prop where
 kind:sc.kind=.function
 Uv:∀y∈sc.names,y.2≠.cell
 names:∀y∈sc.names,y.2=.local->sc.names.lookup y.1=some .local
 fr:∀y∈sc.names,y.2=.free->wO.names.lookup y.1=some .cell\/wO.names.lookup y.1=some .free
 fvs:∀y∈fv,sc.names.lookup y=some .free/\(wO.names.lookup y=some .cell\/wO.names.lookup y=some .free)
abbrev Uw (X:Cx)(xs:List Str)(js:List Nat):List Str:=xs++js.map fun j=>X.N.getD j ""
abbrev Lj (σ:St)(js:List Nat)(os:List (Option V)):St:=os++js.map fun j=>σ.getD j none
def zkD (wi:TI)(xs:List Str)(js:List Nat)(g:TG)(tt:TT)(te:TE):TE:=fun σ H Q=>wi σ H fun J H1=>∃W:Nat->Nat->List V->Hp->Prop,(∃m,W 0 m [] H1)/\∀i m ys H,W i m ys H ->
 (J.stop i H/\∀p,H p=none->Q (.ref p) (upd H p (.lst ys))) \/
 (J.go i H/\ys.length<sizeLine/\∀x H',J.R7 i H x H'->∀o0:List (Option V),o0.length=xs.length->g x (Lj σ js o0) H' fun σ2 H1=>∃o1,σ2=Lj σ js o1/\o1.length=xs.length/\tt σ2 H1 fun b H2 =>
  if b=true then te σ2 H2 fun v H3=>∃m',m'<m/\W (i+1) m' (ys++[v]) H3 else ∃m',m'<m/\W (i+1) m' ys H2)
section
variable {X:Cx}{sc wO:Scope}{xs:List Str}{js:List Nat}
theorem zkE {pins:List (Addr×Obj)}{σ:St}{H:Hp}{s:Shared}{fp:List Addr}{C:Addr}(I:Inv X pins σ H s)(Yj:X.env.scope=wO)(L:zee wO sc xs (js.map fun j=>X.N.getD j ""))
  (f2:∀b∈fp,zbt X pins H b)(lt:∀b∈fp,b<s.heap.objs.size)(hC:s.heap.objs.size<=C):(X.blk sc (clo sc.names X.env.cells []) C (Uw X xs js) s H fp).Ok where
 mod:=I.ok.mod
 kind:=L.kind
 glob:=I.ok.glob
 blt:=I.ok.blt
 above:=hC
 inj:=fun y z c h1 h2=>I.ok.inj y z c (V3 _ _ [] (fun _ _ e=>by simp at e) y c h1) (V3 _ _ [] (fun _ _ e=>by simp at e) z c h2)
 has:=fun y hy=>by
  have hy':(relabel sc X.env).names.lookup y=some .cell\/(relabel sc X.env).names.lookup y=some .free:=hy
  have hm:(y,NameKind.free)∈sc.names:=by
   rcases hy' with e | e
   ·exact Xx e (.inl rfl) L.Uv
   ·exact Xx e (.inr rfl) L.Uv
  have ho:X.env.kindOf y=some .cell\/X.env.kindOf y=some .free:=by
   show X.env.scope.names.lookup y=_\/X.env.scope.names.lookup y=_
   rw[Yj]
   exact L.fr _ hm rfl
  obtain⟨c,e⟩:=I.ok.has y ho
  exact Option.isSome_iff_exists.mp (zcV _ _ [] y hm (by rw[e];rfl))
 cab:=fun y c h=>by cases h
 hd:=I.ok.hd
 frames:=I.ok.frames
 stk:=.inl rfl
 exf:=fun b hb=>⟨ztH (ztB (lt b hb) hC),fun y c e=>(f2 b hb).2.2.2.2.1 y c (V3 _ _ [] (fun _ _ e=>by simp at e) y c e)⟩
 bs:=I.bs
 bsz:=ztO I.ok.bsz I.sz
 zhy:=fun b o e hb=>by
  rcases (f2 b hb).2.2.2.1 with z | z
  ·exact I.ok.zhy b o e z
  ·exact absurd (ztB (ztz (I.ok.bs b o e).1) z) (Nat.lt_irrefl _)
 zhz:=fun b hb hm=>by
  rcases List.mem_cons.mp (I.zcJ b hm) with z | z
  ·exact(f2 b hb).2.1 z
  ·exact(f2 b hb).2.2.1 z
 Lk:=I.stack
 frf:=I.zgE
end
section
variable {X:Cx}{sc wO:Scope}{xs:List Str}{js:List Nat}{tg:Expr}{g:TG}{elt iter:Expr}{px pos:Pos}{ifs:List Expr}{wi:TI}{tt:TT}{te:TE}
theorem ziR {cl:List (Str×Addr)}{C D:Addr}{s₂:Shared}{H₂:Hp}{fp:List Addr}{pl:List (Addr×Obj)}{σ0:St}{H:Hp}{s:Shared}{u:Value}{v:V}{its:List Value}{n:Nat}{o0:List (Option V)}{E:Value->Shared->Prop}
  {Ny:V->Hp->Prop}{Nn:Hp->Prop}
  (hg:PG (X.blk sc cl C (Uw X xs js) s₂ H₂ fp) tg g)
  (I:Inv (X.blk sc cl C (Uw X xs js) s₂ H₂ fp) ((D,v9 its n)::pl) (Lj σ0 js o0) H s)(ru:RelV v u)
  (ht:∀(pins:List (Addr×Obj)) (s':Shared) (σ':St) (H':Hp) (Q:Bool->Hp->Prop),Inv (X.blk sc cl C (Uw X xs js) s₂ H₂ fp) pins σ' H' s'->tt σ' H' Q ->
   wpAny (model X.prog X.w) X.A (YB ifs (compEnvC sc cl C X.env)) (TP (X.blk sc cl C (Uw X xs js) s₂ H₂ fp) pins σ' Q) (fun _ _=>False) s')
  (he:PE (X.blk sc cl C (Uw X xs js) s₂ H₂ fp) elt te)
  (hlen:its.length<sizeLine)(hD0:s₂.heap.objs.size<=D)(hDC:D≠C)(hDc:∀y c,cl.lookup y=some c->c≠D)(hDp:∀p∈pl,p.1≠D)
  (h:g v (Lj σ0 js o0) H fun σ2 H1=>∃o1,σ2=Lj σ0 js o1/\o1.length=xs.length/\tt σ2 H1 fun b H2=>if b=true then te σ2 H2 Ny else Nn H2) :
  wpAny (model X.prog X.w) X.A (assign tg (compEnvC sc cl C X.env) u) (fun _ s2 =>
   wpAny (model X.prog X.w) X.A (YB ifs (compEnvC sc cl C X.env)) (fun ok s3 =>
    if ok=true then wpAny (model X.prog X.w) X.A (eval elt (compEnvC sc cl C X.env)) (fun y s4 =>
     wpAny (model X.prog X.w) X.A (call (.builtin "list.append") [.ref D,y]) (fun _ s5=>∃z y' H5 o1,o1.length=xs.length/\Ny z H5/\RelV z y'/\Inv (X.blk sc cl C (Uw X xs js) s₂ H₂ fp) ((D,v9 (its++[y']) (n+1))::pl) (Lj σ0 js o1) H5 s5) E s4) E s3
    else ∃H5 o1,o1.length=xs.length/\Nn H5/\Inv (X.blk sc cl C (Uw X xs js) s₂ H₂ fp) ((D,v9 its n)::pl) (Lj σ0 js o1) H5 s3) E s2) E s:=by
 refine wpAny_mono (hg _ s _ H v u _ I ru h) (fun _ s2 ⟨σ6,H6,I6,o1,e1,l1,h6⟩=>?_) fun _ _ z=>False.elim z
 subst e1
 refine wpAny_mono (ht _ s2 _ _ _ I6 h6) (fun ok s3 ⟨H7,I7,q7⟩=>?_) fun _ _ z=>False.elim z
 cases ok with
 | false =>
  rw[if_neg ztw] at q7 ⊢
  exact⟨H7,o1,l1,q7,I7⟩
 | true =>
  rw[if_pos rfl] at q7 ⊢
  refine wpAny_mono (he _ s3 _ H7 _ I7 q7) (fun y s4 ⟨z,H8,I8,r8,q8⟩=>?_) fun _ _ z=>False.elim z
  obtain⟨p1,p2,p3,p4,p5⟩:=I8.pin (D,v9 its n) (ztJ _ ztM)
  have p1':s4.heap.get? D=some { cls:=.type "list", data:=.seq its.toArray n }:=p1
  refine call_meets F.slot_list_append ⟨_,p1',rfl⟩ F.entry_list_append (F.args_list_append_2 _ _) (PySem.list_append D its.toArray n y (by rw[ztC];omega)) ⟨p1',?_⟩
  have q:=PySem.IsL.update p1' (fun a=>a.push y)
  have sz:((its.toArray.push y).size==its.toArray.size)=false:=by simp
  have e3:(s4.heap.update D (Obj.mapSeq fun a=>a.push y)).get? D=some (v9 (its++[y]) (n+1)):=by
   have q':(s4.heap.update D (Obj.mapSeq fun a=>a.push y)).get? D=some { cls:=.type "list", data:=.seq (its.toArray.push y) (if ((its.toArray.push y).size==its.toArray.size)=true then n else n+1) }:=q
   rw[q',sz,if_neg ztw]
   simp
  have I9:Inv (X.blk sc cl C (Uw X xs js) s₂ H₂ fp) pl (Lj σ0 js o1) H8 s4:=I8.Xv fun p hp=>I8.pin p (ztJ _ (ztD _ hp))
  have oth:∀b o,b≠D->s4.heap.get? b=some o->(s4.heap.update D (Obj.mapSeq fun a=>a.push y)).get? b=some o:=fun b o hb e=>(Heap.get?_update_other _ _ (Ne.symm hb)).trans e
  have I10:=I9.turned (t':=s4.toks) (h':=s4.heap.update D (Obj.mapSeq fun a=>a.push y)) (it:=D) oth p2 hDC (.inr hD0) hDc (fun p hp=>hDp p hp)
  refine⟨z,y,H8,o1,l1,q8,r8,I10.Xv fun p hp=>?_⟩
  rcases List.mem_cons.mp hp with e | e
  ·subst e
   exact⟨e3,p2,p3,p4,fun w hw=>by cases hw⟩
  ·exact I10.pin p (ztJ _ e)
theorem zap {use:Option (Value->Sem Unit)}{QQ:Value->Shared->Prop}{Fin:List V->Hp->Prop}{pins:List (Addr×Obj)}{s:Shared}{σ:St}{H:Hp}(Yj:X.env.scope=wO)(L:zee wO sc xs (js.map fun j=>X.N.getD j "")){rd:Cx->Prop}(hc:∀sc cl C N s H fp,rd (X.blk sc cl C N s H fp))(hi:PIr rd X tg iter wi)(hg:∀(cl:List (Str×Addr)) (C:Addr) (s₂:Shared) (H₂:Hp) (fp:List Addr),PG (X.blk sc cl C (Uw X xs js) s₂ H₂ fp) tg g)(hjs:∀j∈js,j<X.N.length)
  (ht:∀(cl:List (Str×Addr)) (C:Addr) (s₂:Shared) (H₂:Hp) (fp:List Addr) (pins:List (Addr×Obj)) (s':Shared) (σ':St) (H':Hp) (Q:Bool->Hp->Prop),Inv (X.blk sc cl C (Uw X xs js) s₂ H₂ fp) pins σ' H' s'->tt σ' H' Q ->
   wpAny (model X.prog X.w) X.A (YB ifs (compEnvC sc cl C X.env)) (TP (X.blk sc cl C (Uw X xs js) s₂ H₂ fp) pins σ' Q) (fun _ _=>False) s')
  (he:∀(cl:List (Str×Addr)) (C:Addr) (s₂:Shared) (H₂:Hp) (fp:List Addr),PE (X.blk sc cl C (Uw X xs js) s₂ H₂ fp) elt te)
  (hs:∀x,foldedSetIterable iter X.env x=pure x)(I:Inv X pins σ H s)
  (h:wi σ H fun J H1=>∃W:Nat->Nat->List V->Hp->Prop,(∃m,W 0 m [] H1)/\∀i m ys H,W i m ys H->(J.stop i H/\Fin ys H) \/
   (J.go i H/\ys.length<sizeLine/\∀x H',J.R7 i H x H'->∀o0:List (Option V),o0.length=xs.length->g x (Lj σ js o0) H' fun σ2 H1=>∃o1,σ2=Lj σ js o1/\o1.length=xs.length/\tt σ2 H1 fun b H2 =>
    if b=true then te σ2 H2 fun v H3=>∃m',m'<m/\W (i+1) m' (ys++[v]) H3 else ∃m',m'<m/\W (i+1) m' ys H2))
  (hfin:∀(D C:Addr) (s5:Shared) (H5:Hp) (ys:List V) (its:List Value) (k:Nat) (m5:Str->Option Value),Inv X pins σ H5 s5->Own X pins H5 D->Own X pins H5 C->D≠C->s5.heap.get? D=some (v9 its k)->Vals ys its->ys.length<=sizeLine->s5.heap.Ns C m5->Fin ys H5 ->
   compPost (model X.prog X.w) X.A X.xe use QQ (.ref D) C (.ok .next) s5) :
  wpAny (model X.prog X.w) X.A (comprehension (.ListComp elt [⟨tg,iter,ifs,0⟩] sc pos) sc X.env (firstIterPos [⟨tg,iter,ifs,0⟩] pos) (newList []) false (eval iter X.env) use) QQ X.xe s:=by
 have hcl:closureFor sc X.env=pure (clo sc.names X.env.cells []):=zfJ fun y hy=>by
  have ho:X.env.kindOf y=some .cell\/X.env.kindOf y=some .free:=by
   show X.env.scope.names.lookup y=_\/X.env.scope.names.lookup y=_
   rw[Yj]
   exact L.fr _ hy rfl
  obtain⟨c,e⟩:=I.ok.has y ho
  rw[e];rfl
 refine wpAny_comprehension_free (use:=use) rfl hs hcl L.kind L.names (wM (hi pins s σ H _ I h) fun v s1 h1=>wM h1 fun itv s2 h2=>?_)
 obtain⟨it,fp,tn,J,H2,e,I2,T,st2,f2,W,⟨m0,w0⟩,turn⟩:=h2
 subst e
 refine wpAny_newObj_type (wpAny_newFunctionEnv L.Uv (by intro y hy;simp at hy) (fun h₁ hns₁ hsb₁=>?_) L.kind)
 dsimp only at hns₁ hsb₁ ⊢
 generalize hG:s2.heap.push { cls:=.type "list", dict:=none,data:=.seq ([]:List Value).toArray }=G at hns₁ hsb₁ ⊢
 have hGs:G.objs.size=s2.heap.objs.size+1:=by rw[<-hG,Heap.size_push]
 have hCle:s2.heap.objs.size<=G.objs.size:=by rw[hGs];exact Nat.le_succ _
 have hDC:s2.heap.objs.size≠G.objs.size:=by rw[hGs];exact ztH (Nat.lt_succ_self _)
 have old:∀b o,s2.heap.get? b=some o->h₁.get? b=some o:=fun b o e=>by
  have lt:=ztz e
  refine hsb₁.extBut b o (ztH (ztB lt hCle)) (zty _ ?_)
  rw[<-hG]
  exact zty _ e
 have hacc:h₁.get? s2.heap.objs.size=some (v9 [] 0):=by
  refine hsb₁.extBut _ _ hDC (zty _ ?_)
  rw[<-hG]
  exact ztN _ rfl
 have lt:∀b∈fp,b<s2.heap.objs.size:=fun b hb=>by
  obtain⟨o,e,_⟩:=T.obj _ _ st2 b hb
  exact ztz e
 have clS:∀y c,(clo sc.names X.env.cells []).lookup y=some c->X.env.cells.lookup y=some c:=V3 _ _ [] (fun _ _ e=>by simp at e)
 have zpq:∀y c,(clo sc.names X.env.cells []).lookup y=some c->c<s2.heap.objs.size:=fun y c e=>by
  obtain⟨v,o,q,_⟩:=I2.cell y c (clS y c e)
  exact ztz q
 have Bok:(X.blk sc (clo sc.names X.env.cells []) G.objs.size (Uw X xs js) s2 H2 fp).Ok:=zkE I2 Yj L f2 lt hCle
 have fresh:∀a,s2.heap.objs.size<=a->H2 a=none:=fun a ha=>I2.hok.fresh ha
 have zmC:∀b∈frs X.stack,b<s2.heap.objs.size:=fun b hb=>by
  rcases List.mem_cons.mp (I2.zcJ b hb) with z | z
  ·rw[z];exact I2.lt
  ·refine Nat.lt_of_not_le fun q=>I2.zmi q z
 have B0:Inv (X.blk sc (clo sc.names X.env.cells []) G.objs.size (Uw X xs js) s2 H2 fp) [(s2.heap.objs.size,v9 [] 0)] (Lj σ js (List.replicate xs.length none)) H2 { s2 with heap:=h₁,toks:=s2.toks+([]:List (Str×Value)).length }:=by
  refine⟨Bok,rfl,I2.bare,Un.kept old,⟨_,hns₁,fun i y v e1 e2 e3=>?_⟩,fun y c e=>?_,fresh _ hCle,fun y c e=>I2.Tz y c (clS y c e),fun p hp=>?_,I2.hok.kept old,?_⟩
  ·by_cases hlt:i<xs.length
   ·exfalso
    have e2'':(List.replicate xs.length (none:Option V)++js.map fun j=>σ.getD j none)[i]?=some (some v):=e2
    rw[ztZ (by rw[List.length_replicate];exact hlt),List.getElem?_replicate,if_pos hlt] at e2''
    cases e2''
   ·have e1':(js.map fun j=>X.N.getD j "")[i-xs.length]?=some y:=by
     have z:(xs++js.map fun j=>X.N.getD j "")[i]?=some y:=e1
     rw[List.getElem?_append_right (by omega)] at z
     exact z
    have e2':(js.map fun j=>σ.getD j none)[i-xs.length]?=some (some v):=by
     have z:(List.replicate xs.length (none:Option V)++js.map fun j=>σ.getD j none)[i]?=some (some v):=e2
     rw[List.getElem?_append_right (by rw[List.length_replicate];omega),List.length_replicate] at z
     exact z
    have e1s:=e1'
    rw[ztu] at e1' e2'
    cases hj:js[i-xs.length]? with
    | none=>rw[hj] at e1';cases e1'
    | some j =>
     rw[hj] at e1' e2'
     have e4:X.N.getD j ""=y:=ztX e1'
     have e5:σ.getD j none=some v:=ztX e2'
     have hjl:=hjs j (ztx hj)
     have e6:X.N[j]?=some y:=by
      rw[ztF,ztt hjl] at e4
      rw[ztt hjl]
      exact congrArg some e4
     have e7:σ[j]?=some (some v):=by
      rw[ztF] at e5
      cases hq:σ[j]? with
      | none=>rw[hq] at e5;cases e5
      | some w=>rw[hq] at e5;exact congrArg some e5
     obtain⟨hm0,hk⟩:=L.fvs y (ztx e1s)
     have hm:(y,NameKind.free)∈sc.names:=PySem.mem_of_lookup hm0
     have hk':X.env.kindOf y=some .cell\/X.env.kindOf y=some .free:=by
      show X.env.scope.names.lookup y=_\/X.env.scope.names.lookup y=_
      rw[Yj];exact hk
     have hv:Vis X.env.scope y:=by rcases hk' with z | z;exact .inr (.inl z);exact .inr (.inr z)
     obtain⟨m,hn,hl⟩:=I2.loc
     obtain⟨u,r,l⟩:=hl j y v e6 e7 hv
     refine⟨u,r,.inr ?_⟩
     rcases l with ⟨z,_⟩ | ⟨_,c,hc1,hc2⟩
     ·rw[z] at hk';rcases hk' with q | q<;>cases q
     ·have hs2:((clo sc.names X.env.cells []).lookup y).isSome=true:=zcV _ _ [] y hm (by rw[hc1];rfl)
      obtain⟨c',hc'⟩:=Option.isSome_iff_exists.mp hs2
      have hcc:c'=c:=by have:=clS y c' hc';rw[hc1] at this;exact(ztX this).symm
      subst hcc
      obtain⟨o,ho,hd⟩:=hc2
      exact⟨zao hm0,c',hc',o,old _ o ho,hd⟩
  ·obtain⟨v,o,q,d⟩:=I2.cell y c (clS y c e)
   exact⟨v,o,old _ o q,d⟩
  ·have e:p=(s2.heap.objs.size,v9 [] 0):=by simpa using hp
   subst e
   exact⟨hacc,fresh _ (ztI _),hDC,fun z=>Nat.lt_irrefl _ (zmC _ z),fun w hw=>by cases hw⟩
  ·show _=(Uw X xs js).length
   simp
 have stat:∀{H':Hp} {pl:List (Addr×Obj)},(∀b∈fp,H' b=none)->(∀p∈pl,p.1=s2.heap.objs.size)->∀b∈fp,zbt (X.blk sc (clo sc.names X.env.cells []) G.objs.size (Uw X xs js) s2 H2 fp) pl H' b:=fun hn hp b hb =>
  ⟨hn b hb,(Bok.exf b hb).1,Bok.zhz b hb,.inl hb,(Bok.exf b hb).2,fun p hm=>by
   rw[hp p (by simpa using hm)]
   exact Ne.symm (ztH (lt b hb))⟩
 have loop:∀s3:Shared,s3={ s2 with heap:=h₁,toks:=s2.toks+([]:List (Str×Value)).length } ->
   codeAny (model X.prog X.w) X.A (.compLoop (.ListComp elt [⟨tg,iter,ifs,0⟩] sc pos) 0 (.ref it) (.ref s2.heap.objs.size) (compEnvC sc (clo sc.names X.env.cells []) G.objs.size X.env))
    (compPost (model X.prog X.w) X.A X.xe use QQ (.ref s2.heap.objs.size) G.objs.size) s3:=by
  rintro s3 rfl
  refine zkC (fun n s'=>∃i ys its k o0 H',o0.length=xs.length/\Inv (X.blk sc (clo sc.names X.env.cells []) G.objs.size (Uw X xs js) s2 H2 fp) [(s2.heap.objs.size,v9 its k)] (Lj σ js o0) H' s'/\tn i s'.heap/\(∀b∈fp,H' b=none)/\Vals ys its/\ys.length<=sizeLine/\W i n ys H') ?_ m0
   ⟨0,[],[],0,List.replicate xs.length none,H2,List.length_replicate,B0,T.keep _ _ _ st2 fun b _ o e=>old b o e,fun b hb=>(f2 b hb).1,.nil,ztP _,w0⟩
  rintro n s4 ⟨i,ys,its,k,o0,H4,lo0,I4,st4,fr4,vs4,z4,w4⟩
  have one:∀p∈[(s2.heap.objs.size,v9 its k)],p.1=s2.heap.objs.size:=fun p hp=>by
   have e:p=(s2.heap.objs.size,v9 its k):=by simpa using hp
   rw[e]
  rcases turn i n ys H4 w4 with ⟨stop,qn⟩ | ⟨go,zl,step⟩
  ·refine wM (T.done (X.blk sc (clo sc.names X.env.cells []) G.objs.size (Uw X xs js) s2 H2 fp) rfl rfl rfl (hc _ _ _ _ _ _ _) i _ s4 _ H4 _ I4 (stat fr4 one) st4 stop) fun r s5 ⟨hr,I5⟩=>?_
   subst hr
   obtain⟨m5,hn5,_⟩:=I5.loc
   obtain⟨p1,p2,p3,p4,p5⟩:=I5.pin (s2.heap.objs.size,v9 its k) (by simp)
   have ch:∀b∈fp,(b∈X.ex\/X.s₀.heap.objs.size<=b)/\b≠X.env.locals/\(∀x c,X.env.cells.lookup x=some c->c≠b)/\∀p∈X.pn++pins,p.1≠b:=fun b hb =>
    ⟨(f2 b hb).2.2.2.1,(f2 b hb).2.1,(f2 b hb).2.2.2.2.1,(f2 b hb).2.2.2.2.2⟩
   have J1:Inv X pins σ H4 s5:=I2.call' I5.os I5.base I5.hok I5.bare ch
   have ltp:∀p∈X.pn++pins,p.1<s2.heap.objs.size:=fun p hp=>ztz (I2.pin p hp).1
   have ltc:∀y c,X.env.cells.lookup y=some c->c<s2.heap.objs.size:=fun y c e=>by
    obtain⟨v,o,q,_⟩:=I2.cell y c e
    exact ztz q
   have s0:X.s₀.heap.objs.size<=s2.heap.objs.size:=I2.sz
   have own:∀a,s2.heap.objs.size<=a->H4 a=none->Own X pins H4 a:=fun a ha hn=>⟨hn,Ne.symm (ztH (ztB I2.lt ha)),ztO s0 ha,fun y c e=>ztH (ztB (ltc y c e) ha),
    fun p hp=>ztH (ztB (ltp p hp) ha),I2.zmi ha⟩
   exact hfin _ _ s5 H4 ys its k m5 J1 (own _ (ztI _) p2) (own _ hCle I5.free) hDC p1 vs4 z4 hn5 qn
  ·refine wM (T.item (X.blk sc (clo sc.names X.env.cells []) G.objs.size (Uw X xs js) s2 H2 fp) rfl rfl rfl (hc _ _ _ _ _ _ _) i _ s4 _ H4 _ I4 (stat fr4 one) st4 go) fun r s5 ⟨u,hr,h5⟩=>?_
   subst hr
   refine wpAny_mono h5 (fun _ s5' ⟨v,H6,I6,r6,y6,st6,fr6⟩=>?_) fun _ _ z=>z
   have I7:=I6.pinned (stat fr6 one) (T.obj _ _ st6)
   have zpt:∀p∈Pq fp s5'.heap,p.1≠s2.heap.objs.size:=fun p hp=>ztH (lt _ (zbY hp).1)
   have zrD:=vs4.length
   have back:∀{its':List Value} {k':Nat} {H7:Hp} {s7:Shared} {ys':List V} {m':Nat} {o1:List (Option V)},o1.length=xs.length->Inv (X.blk sc (clo sc.names X.env.cells []) G.objs.size (Uw X xs js) s2 H2 fp) ((s2.heap.objs.size,v9 its' k')::Pq fp s5'.heap) (Lj σ js o1) H7 s7 ->
     Vals ys' its'->ys'.length<=sizeLine->m'<n->W (i+1) m' ys' H7->∃m,m<n/\∃i ys its k o0 H',o0.length=xs.length/\Inv (X.blk sc (clo sc.names X.env.cells []) G.objs.size (Uw X xs js) s2 H2 fp) [(s2.heap.objs.size,v9 its k)] (Lj σ js o0) H' s7/\tn i s7.heap/\(∀b∈fp,H' b=none)/\Vals ys its/\ys.length<=sizeLine/\W i m ys H':=by
    intro its' k' H7 s7 ys' m' o1 l1 J vs' z' hm w'
    refine⟨m',hm,i+1,ys',its',k',o1,H7,l1,J.Xv fun p hp=>J.pin p (ztJ _ (by simp at hp;simp[hp])),?_,?_,vs',z',w'⟩
    ·exact T.keep _ _ _ st6 fun b hb o e=>(J.pin (b,o) (ztJ _ (ztD _ (Ur hb e)))).1
    ·intro b hb
     obtain⟨o,e,_⟩:=T.obj _ _ st6 b hb
     exact(J.pin (b,o) (ztJ _ (ztD _ (Ur hb e)))).2.1
   refine wpAny_mono (ziR (X:=X) (sc:=sc) (xs:=xs) (js:=js) (tg:=tg) (g:=g) (elt:=elt) (ifs:=ifs) (tt:=tt) (te:=te) (D:=s2.heap.objs.size) (its:=its) (n:=k) (pl:=Pq fp s5'.heap)
    (hg _ _ _ _ _) I7 r6 (ht _ _ _ _ _) (he _ _ _ _ _) (by omega) (ztI _) hDC (fun y c e=>ztH (zpq y c e)) zpt (step v H6 y6 o0 lo0)) (fun _ s6 h6=>?_) fun _ _ z=>z
   refine wpAny_mono h6 (fun ok s7 h7=>?_) fun _ _ z=>z
   cases ok with
   | false =>
    rw[if_neg ztw] at h7 ⊢
    obtain⟨H7,o1,l1,⟨m',hm,w'⟩,J⟩:=h7
    exact back l1 J vs4 z4 hm w'
   | true =>
    rw[if_pos rfl] at h7 ⊢
    refine wpAny_mono h7 (fun y s8 h8=>?_) fun _ _ z=>z
    refine wpAny_mono h8 (fun _ s9 h9=>?_) fun _ _ z=>z
    obtain⟨z,y',H9,o1,l1,⟨m',hm,w'⟩,rz,J⟩:=h9
    refine back l1 J (vs4.append (.cons rz .nil)) ?_ hm w'
    rw[ztA,zt0]
    omega
 exact codeAny_compStart_list (loop _ rfl) (T.self _ 0 _ _ _ (T.keep _ _ _ st2 fun b _ o e=>old b o e) (loop _ rfl))
end
section
variable {X:Cx}{sc wO:Scope}{x:Str}{js:List Nat}{elt iter:Expr}{px pos:Pos}{ifs:List Expr}{wi:TI}{tt:TT}{te:TE}
theorem zgR {use:Option (Value->Sem Unit)}{QQ:Value->Shared->Prop}{Fin:List V->Hp->Prop}{pins:List (Addr×Obj)}{s:Shared}{σ:St}{H:Hp}(Yj:X.env.scope=wO)(L:uZ wO sc x (js.map fun j=>X.N.getD j "")){rd:Cx->Prop}(hc:∀sc cl C N s H fp,rd (X.blk sc cl C N s H fp))(hi:PIr rd X (.Name x px) iter wi)(hjs:∀j∈js,j<X.N.length)
  (ht:∀(cl:List (Str×Addr)) (C:Addr) (s₂:Shared) (H₂:Hp) (fp:List Addr) (pins:List (Addr×Obj)) (s':Shared) (σ':St) (H':Hp) (Q:Bool->Hp->Prop),Inv (X.blk sc cl C (lcN X x js) s₂ H₂ fp) pins σ' H' s'->tt σ' H' Q ->
   wpAny (model X.prog X.w) X.A (YB ifs (compEnvC sc cl C X.env)) (TP (X.blk sc cl C (lcN X x js) s₂ H₂ fp) pins σ' Q) (fun _ _=>False) s')
  (he:∀(cl:List (Str×Addr)) (C:Addr) (s₂:Shared) (H₂:Hp) (fp:List Addr),PE (X.blk sc cl C (lcN X x js) s₂ H₂ fp) elt te)
  (hs:∀x,foldedSetIterable iter X.env x=pure x)(I:Inv X pins σ H s)
  (h:wi σ H fun J H1=>∃W:Nat->Nat->List V->Hp->Prop,(∃m,W 0 m [] H1)/\∀i m ys H,W i m ys H->(J.stop i H/\Fin ys H) \/
   (J.go i H/\ys.length<sizeLine/\∀x H',J.R7 i H x H'->tt (Zj σ js (some x)) H' fun b H2 =>
    if b=true then te (Zj σ js (some x)) H2 fun v H3=>∃m',m'<m/\W (i+1) m' (ys++[v]) H3 else ∃m',m'<m/\W (i+1) m' ys H2))
  (hfin:∀(D C:Addr) (s5:Shared) (H5:Hp) (ys:List V) (its:List Value) (k:Nat) (m5:Str->Option Value),Inv X pins σ H5 s5->Own X pins H5 D->Own X pins H5 C->D≠C->s5.heap.get? D=some (v9 its k)->Vals ys its->ys.length<=sizeLine->s5.heap.Ns C m5->Fin ys H5 ->
   compPost (model X.prog X.w) X.A X.xe use QQ (.ref D) C (.ok .next) s5) :
  wpAny (model X.prog X.w) X.A (comprehension (.ListComp elt [⟨.Name x px,iter,ifs,0⟩] sc pos) sc X.env (firstIterPos [⟨.Name x px,iter,ifs,0⟩] pos) (newList []) false (eval iter X.env) use) QQ X.xe s:=by
 have e:(fun(J:It) (H1:Hp)=>∃W:Nat->Nat->List V->Hp->Prop,(∃m,W 0 m [] H1)/\∀i m ys H,W i m ys H->(J.stop i H/\Fin ys H) \/
   (J.go i H/\ys.length<sizeLine/\∀x H',J.R7 i H x H'->tt (Zj σ js (some x)) H' fun b H2 =>
    if b=true then te (Zj σ js (some x)) H2 fun v H3=>∃m',m'<m/\W (i+1) m' (ys++[v]) H3 else ∃m',m'<m/\W (i+1) m' ys H2)) =
   (fun(J:It) (H1:Hp)=>∃W:Nat->Nat->List V->Hp->Prop,(∃m,W 0 m [] H1)/\∀i m ys H,W i m ys H->(J.stop i H/\Fin ys H) \/
   (J.go i H/\ys.length<sizeLine/\∀y H',J.R7 i H y H'->∀o0:List (Option V),o0.length=[x].length->Yg 0 y (Lj σ js o0) H' fun σ2 H1=>∃o1,σ2=Lj σ js o1/\o1.length=[x].length/\tt σ2 H1 fun b H2 =>
    if b=true then te σ2 H2 fun v H3=>∃m',m'<m/\W (i+1) m' (ys++[v]) H3 else ∃m',m'<m/\W (i+1) m' ys H2)):=by
  funext J H1
  refine propext ⟨fun⟨W,w0,w1⟩=>⟨W,w0,fun i m ys H hw=>?_⟩,fun⟨W,w0,w1⟩=>⟨W,w0,fun i m ys H hw=>?_⟩⟩
  ·rcases w1 i m ys H hw with a | ⟨a,b,c⟩
   ·exact .inl a
   ·refine .inr ⟨a,b,fun y H' hy o0 ho=>?_⟩
    match o0,ho with
    | [o],_=>exact⟨[some y],rfl,rfl,c y H' hy⟩
  ·rcases w1 i m ys H hw with a | ⟨a,b,c⟩
   ·exact .inl a
   ·refine .inr ⟨a,b,fun y H' hy=>?_⟩
    obtain⟨o1,e1,e2,e3⟩:=c y H' hy [none] rfl
    exact e3
 rw[e] at h
 exact zap (xs:=[x]) (g:=Yg 0) Yj ⟨L.kind,L.Uv,L.names,L.fr,L.fvs⟩ hc hi (fun cl C s₂ H₂ fp=>z9 (X:=X.blk sc cl C (Uw X [x] js) s₂ H₂ fp) L.nd rfl (.inl (lookup_relabel_local L.hx)) (.inr (lookup_relabel_local L.hx))) hjs ht he hs I h hfin
theorem zkF (Yj:X.env.scope=wO)(L:uZ wO sc x (js.map fun j=>X.N.getD j "")){rd:Cx->Prop}(hc:∀sc cl C N s H fp,rd (X.blk sc cl C N s H fp))(hi:PIr rd X (.Name x px) iter wi)(hjs:∀j∈js,j<X.N.length)
  (ht:∀(cl:List (Str×Addr)) (C:Addr) (s₂:Shared) (H₂:Hp) (fp:List Addr) (pins:List (Addr×Obj)) (s':Shared) (σ':St) (H':Hp) (Q:Bool->Hp->Prop),Inv (X.blk sc cl C (lcN X x js) s₂ H₂ fp) pins σ' H' s'->tt σ' H' Q ->
   wpAny (model X.prog X.w) X.A (YB ifs (compEnvC sc cl C X.env)) (TP (X.blk sc cl C (lcN X x js) s₂ H₂ fp) pins σ' Q) (fun _ _=>False) s')
  (he:∀(cl:List (Str×Addr)) (C:Addr) (s₂:Shared) (H₂:Hp) (fp:List Addr),PE (X.blk sc cl C (lcN X x js) s₂ H₂ fp) elt te)
  (hs:∀x,foldedSetIterable iter X.env x=pure x:=by intro _;rfl) :
  PE X (.ListComp elt [⟨.Name x px,iter,ifs,0⟩] sc pos) (tLC wi js tt te):=by
 intro pins s σ H Q I h
 rw[eval_ListComp]
 refine zgR (use:=none) (Fin:=fun ys H=>∀p,H p=none->Q (.ref p) (upd H p (.lst ys))) Yj L hc hi hjs ht he hs I h fun D C s5 H5 ys its k m5 J oD oC hDC p1 vs z hn fin=>?_
 refine⟨m5,hn,fun h' hsb=>?_⟩
 have J2:Inv X pins σ H5 { s5 with heap:=h',toks:=s5.toks }:=J.turned (it:=C) (fun b o hb e=>hsb.extBut b o hb e) oC.free oC.loc (.inr oC.new) oC.cel oC.pin
 have p1':h'.get? D=some (v9 its k):=hsb.extBut _ _ hDC p1
 have J3:Inv X pins σ (upd H5 D (.lst ys)) { s5 with heap:=h',toks:=s5.toks }:=J2.track oD.free oD.loc oD.new oD.cel oD.pin ⟨z,its,k,vs,p1'⟩
 exact⟨.ref D,_,J3,rfl,fin D oD.free⟩
theorem ziS (Yj:X.env.scope=wO)(L:uZ wO sc x (js.map fun j=>X.N.getD j ""))(hc:X.calm=true)(hi:PI X (.Name x px) iter wi)(hjs:∀j∈js,j<X.N.length)
  (ht:∀(cl:List (Str×Addr)) (C:Addr) (s₂:Shared) (H₂:Hp) (fp:List Addr) (pins:List (Addr×Obj)) (s':Shared) (σ':St) (H':Hp) (Q:Bool->Hp->Prop),Inv (X.blk sc cl C (lcN X x js) s₂ H₂ fp) pins σ' H' s'->tt σ' H' Q ->
   wpAny (model X.prog X.w) X.A (YB ifs (compEnvC sc cl C X.env)) (TP (X.blk sc cl C (lcN X x js) s₂ H₂ fp) pins σ' Q) (fun _ _=>False) s')
  (he:∀(cl:List (Str×Addr)) (C:Addr) (s₂:Shared) (H₂:Hp) (fp:List Addr),PE (X.blk sc cl C (lcN X x js) s₂ H₂ fp) elt te)
  (hs:∀x,foldedSetIterable iter X.env x=pure x:=by intro _;rfl) :
  PE X (.ListComp elt [⟨.Name x px,iter,ifs,0⟩] sc pos) (tLC wi js tt te) :=
 zkF Yj L (rd:=Calm) (fun _ _ _ _ _ _ _=>hc) hi hjs ht he hs
def sLC (i:Nat)(wi:TI)(js:List Nat)(tt:TT)(te:TE):TS:=fun D σ H=>tLC wi js tt te σ H fun v H1=>D.nx (σ.set i (some v)) H1
theorem zaq {i:Nat}{y:Str}{py spos:Pos}(hN:X.N.Nodup)(hy:X.N[i]?=some y)(hl:Loc X.env.scope y)(hf:X.fn y=true\/X.env.scope.names.lookup y=some .local)
  (Yj:X.env.scope=wO)(L:uZ wO sc x (js.map fun j=>X.N.getD j ""))(hc:X.calm=true)(hi:PI X (.Name x px) iter wi)(hjs:∀j∈js,j<X.N.length)
  (ht:∀(cl:List (Str×Addr)) (C:Addr) (s₂:Shared) (H₂:Hp) (fp:List Addr) (pins:List (Addr×Obj)) (s':Shared) (σ':St) (H':Hp) (Q:Bool->Hp->Prop),Inv (X.blk sc cl C (lcN X x js) s₂ H₂ fp) pins σ' H' s'->tt σ' H' Q ->
   wpAny (model X.prog X.w) X.A (YB ifs (compEnvC sc cl C X.env)) (TP (X.blk sc cl C (lcN X x js) s₂ H₂ fp) pins σ' Q) (fun _ _=>False) s')
  (he:∀(cl:List (Str×Addr)) (C:Addr) (s₂:Shared) (H₂:Hp) (fp:List Addr),PE (X.blk sc cl C (lcN X x js) s₂ H₂ fp) elt te)
  (hsw:swapsWith (.ListComp elt [⟨.Name x px,iter,ifs,0⟩] sc pos) (some (.Name y py)) spos.line X.env=pure true)(hs:∀x,foldedSetIterable iter X.env x=pure x:=by intro _;rfl) :
  PS X (.Assign [.Name y py] (.ListComp elt [⟨.Name x px,iter,ifs,0⟩] sc pos) spos) (sLC i wi js tt te):=by
 intro pins s σ H D I h
 rw[exec_Assign_Name_used _ _ _ _ hsw]
 refine wpAny_bind (wpAny_standAt (wpAny_bind ?_))
 show wpAny _ _ (do let _ <-comprehension (.ListComp elt [⟨.Name x px,iter,ifs,0⟩] sc pos) sc X.env _ (newList []) false (eval iter X.env) (some (assign (.Name y py) X.env))) _ _ s
 have pg:=z9 (X:=X) (i:=i) (x:=y) (pos:=py) hN hy hl hf
 refine wpAny_bind (wpAny_mono (zgR (use:=some (assign (.Name y py) X.env)) (QQ:=fun _ z=>SP X pins D .next z) (Fin:=fun ys H=>∀p,H p=none->D.nx (σ.set i (some (.ref p))) (upd H p (.lst ys))) Yj L (rd:=Calm) (fun _ _ _ _ _ _ _=>hc) hi hjs ht he hs I h fun A C s5 H5 ys its k m5 J oD oC hDC p1 vs z hn fin=>?_) (fun _ z hq=>wpAny_pure (wpAny_pure hq)) fun _ _ e=>e)
 have J1:Inv X pins σ (upd H5 A (.lst ys)) s5:=J.track oD.free oD.loc oD.new oD.cel oD.pin ⟨z,its,k,vs,p1⟩
 obtain⟨oc,es,ep,hC,hd,hr⟩:=hn
 have Uv:∀v,oc.data≠.cell v:=fun v q=>by rw[hd] at q;cases q
 have hCA:C≠A:=Ne.symm hDC
 have fC:(upd H5 A (.lst ys)) C=none:=by rw[zB hCA];exact oC.free
 have J2:Inv X (pins++[(C,oc)]) σ (upd H5 A (.lst ys)) s5:=J1.Xv fun p hp=>(List.mem_append.mp hp).elim (fun q=>J1.pin p (ztJ _ q)) fun q=>by
  have e:p=(C,oc):=by simpa using q
  subst e
  exact⟨hC,fC,oC.loc,oC.fs,Uv⟩
 refine wpAny_mono (pg _ s5 σ _ (.ref A) (.ref A) (fun σ6 H6=>σ6=σ.set i (some (.ref A))/\H6=upd H5 A (.lst ys)) J2 rfl ⟨rfl,rfl⟩) (fun _ s6 ⟨σ6,H6,I6,e1,e2⟩=>?_) fun _ _ e=>e
 subst e1 e2
 obtain⟨c1,c2,_⟩:=I6.pin (C,oc) (ztJ _ (ztJ _ (by simp)))
 refine⟨m5,⟨oc,es,ep,c1,hd,hr⟩,fun h' hsb=>?_⟩
 have J3:Inv X pins (σ.set i (some (.ref A))) (upd H5 A (.lst ys)) s6:=I6.Xv fun p hp=>I6.pin p (ztJ _ (List.mem_append_left _ hp))
 have J4:Inv X pins (σ.set i (some (.ref A))) (upd H5 A (.lst ys)) { s6 with heap:=h',toks:=s6.toks }:=J3.turned (it:=C) (fun b o hb e=>hsb.extBut b o hb e) c2 oC.loc (.inr oC.new) oC.cel oC.pin
 exact⟨_,_,J4,fin A oD.free⟩
end
section
variable {X:Cx}
def Sw:TT:=fun _ H Q=>Q true H
theorem vH {sc wO:Scope}{x:Str}{js:List Nat}{elt iter:Expr}{px pos:Pos}{wi:TI}{te:TE}(Yj:X.env.scope=wO)(L:uZ wO sc x (js.map fun j=>X.N.getD j ""))(hc:X.calm=true)(hi:PI X (.Name x px) iter wi)(hjs:∀j∈js,j<X.N.length)
  (he:∀(cl:List (Str×Addr)) (C:Addr) (s₂:Shared) (H₂:Hp) (fp:List Addr),PE (X.blk sc cl C (lcN X x js) s₂ H₂ fp) elt te)
  (hs:∀x,foldedSetIterable iter X.env x=pure x:=by intro _;rfl) :
  PE X (.ListComp elt [⟨.Name x px,iter,[],0⟩] sc pos) (tLC wi js Sw te) :=
 ziS Yj L hc hi hjs (fun cl C s₂ H₂ fp pins s' σ' H' Q I h=>wpAny_pure ⟨H',I,h⟩) he hs
theorem zcW {sc wO:Scope}{x:Str}{js:List Nat}{elt iter c:Expr}{px pos:Pos}{wi:TI}{te:TE}{tt:TT}(Yj:X.env.scope=wO)(L:uZ wO sc x (js.map fun j=>X.N.getD j ""))(hc:X.calm=true)(hi:PI X (.Name x px) iter wi)(hjs:∀j∈js,j<X.N.length)
  (ht:∀(cl:List (Str×Addr)) (C:Addr) (s₂:Shared) (H₂:Hp) (fp:List Addr),PT (X.blk sc cl C (lcN X x js) s₂ H₂ fp) c tt)
  (he:∀(cl:List (Str×Addr)) (C:Addr) (s₂:Shared) (H₂:Hp) (fp:List Addr),PE (X.blk sc cl C (lcN X x js) s₂ H₂ fp) elt te)
  (hs:∀x,foldedSetIterable iter X.env x=pure x:=by intro _;rfl) :
  PE X (.ListComp elt [⟨.Name x px,iter,[c],0⟩] sc pos) (tLC wi js tt te) :=
 ziS Yj L hc hi hjs (fun cl C s₂ H₂ fp pins s' σ' H' Q I h=>wpAny_tests_one (ht cl C s₂ H₂ fp pins s' σ' H' Q I h)) he hs
theorem zcX {K:Frag}{a:Addr}{xs:List V}{σ:St}{js:List Nat}{tt:TT}{te:TE}{H:Hp}{Qf:Addr->Hp->List V->Prop}(Pv:Nat->List V->Hp->Prop)(h0:Pv 0 [] H)(hz:xs.length<=sizeLine)
  (hl:∀i ys H,i<=xs.length->Pv i ys H->zP K H a xs/\ys.length<=i)
  (hs:∀i x ys H,xs[i]?=some x->Pv i ys H->tt (Zj σ js (some x)) H fun b H2=>if b=true then te (Zj σ js (some x)) H2 fun v H3=>Pv (i+1) (ys++[v]) H3 else Pv (i+1) ys H2)
  (mt:∀ σ H Q Q',(∀b H1,Q b H1->Q' b H1)->tt σ H Q->tt σ H Q')(me:∀ σ H Q Q',(∀v H1,Q v H1->Q' v H1)->te σ H Q->te σ H Q')
  (hd:∀ys H p,Pv xs.length ys H->H p=none->Qf p H ys) :
  ∃W:Nat->Nat->List V->Hp->Prop,(∃m,W 0 m [] H)/\∀i m ys H,W i m ys H ->
   ((KZ K a).stop i H/\∀p,H p=none->Qf p H ys) \/
   ((KZ K a).go i H/\ys.length<sizeLine/\∀x H',(KZ K a).R7 i H x H'->tt (Zj σ js (some x)) H' fun b H2 =>
    if b=true then te (Zj σ js (some x)) H2 fun v H3=>∃m',m'<m/\W (i+1) m' (ys++[v]) H3 else ∃m',m'<m/\W (i+1) m' ys H2):=by
 refine⟨fun i m ys H=>m=xs.length-i/\i<=xs.length/\Pv i ys H,⟨xs.length,by simp,ztP _,h0⟩,?_⟩
 rintro i m ys H ⟨rfl,hi,p⟩
 obtain⟨q,hy⟩:=hl i ys H hi p
 by_cases hlt:i<xs.length
 ·refine .inr ⟨⟨xs,xs[i],q,by simp[hlt]⟩,by omega,fun x H' y=>?_⟩
  obtain⟨e,y⟩:=y
  subst e
  refine mt _ _ _ _ (fun b H2 h2=>?_) (hs i x ys _ (y xs q) p)
  cases b with
  | true =>
   rw[if_pos rfl] at h2 ⊢
   exact me _ _ _ _ (fun v H3 h3=>⟨_,by omega,rfl,hlt,h3⟩) h2
  | false =>
   rw[if_neg ztw] at h2 ⊢
   exact⟨_,by omega,rfl,hlt,h2⟩
 ·have e:i=xs.length:=by omega
  subst e
  exact .inl ⟨⟨xs,q,ztI _⟩,fun pp hp=>hd ys H pp p hp⟩
theorem ziT {K:Frag}{a:Addr}{xs:List V}{σ:St}{js:List Nat}{tt:TT}{te:TE}{H:Hp}{Qf:Addr->Hp->List V->Prop}(Pv:Nat->List V->Hp->Prop)(h0:Pv 0 [] H)(hz:xs.length<=sizeLine)
  (hl:∀i ys H,i<=xs.length->Pv i ys H->wG K H a xs/\ys.length<=i)
  (hs:∀i x ys H,xs[i]?=some x->Pv i ys H->tt (Zj σ js (some x)) H fun b H2=>if b=true then te (Zj σ js (some x)) H2 fun v H3=>Pv (i+1) (ys++[v]) H3 else Pv (i+1) ys H2)
  (mt:∀ σ H Q Q',(∀b H1,Q b H1->Q' b H1)->tt σ H Q->tt σ H Q')(me:∀ σ H Q Q',(∀v H1,Q v H1->Q' v H1)->te σ H Q->te σ H Q')
  (hd:∀ys H p,Pv xs.length ys H->H p=none->Qf p H ys) :
  ∃W:Nat->Nat->List V->Hp->Prop,(∃m,W 0 m [] H)/\∀i m ys H,W i m ys H ->
   ((Itt K a).stop i H/\∀p,H p=none->Qf p H ys) \/
   ((Itt K a).go i H/\ys.length<sizeLine/\∀x H',(Itt K a).R7 i H x H'->tt (Zj σ js (some x)) H' fun b H2 =>
    if b=true then te (Zj σ js (some x)) H2 fun v H3=>∃m',m'<m/\W (i+1) m' (ys++[v]) H3 else ∃m',m'<m/\W (i+1) m' ys H2):=by
 refine⟨fun i m ys H=>m=xs.length-i/\i<=xs.length/\Pv i ys H,⟨xs.length,by simp,ztP _,h0⟩,?_⟩
 rintro i m ys H ⟨rfl,hi,p⟩
 obtain⟨q,hy⟩:=hl i ys H hi p
 by_cases hlt:i<xs.length
 ·refine .inr ⟨⟨xs,xs[i],q,by simp[hlt]⟩,by omega,fun x H' y=>?_⟩
  obtain⟨e,y⟩:=y
  subst e
  refine mt _ _ _ _ (fun b H2 h2=>?_) (hs i x ys _ (y xs q) p)
  cases b with
  | true =>
   rw[if_pos rfl] at h2 ⊢
   exact me _ _ _ _ (fun v H3 h3=>⟨_,by omega,rfl,hlt,h3⟩) h2
  | false =>
   rw[if_neg ztw] at h2 ⊢
   exact⟨_,by omega,rfl,hlt,h2⟩
 ·have e:i=xs.length:=by omega
  subst e
  exact .inl ⟨⟨xs,q,ztI _⟩,fun pp hp=>hd ys H pp p hp⟩
theorem zar {x:V}:∀{xs:List V} {us:List Value},Vals xs us->xs.all xX=true->∀{j:Nat},xs.findIdx? (fun y=>eqV y x)=some j ->
  ∃hj:j<us.length,eqU x us[j]=true/\∀m (hm:m<us.length),m<j->eqU x us[m]=false
 | _,_,.nil,_,j,h=>by simp at h
 | y::xs,u::us,.cons r t,f,j,h=>by
  rw[List.all_cons,ztU] at f
  rw[List.findIdx?_cons] at h
  by_cases hy:eqV y x=true
  ·rw[if_pos hy] at h
   cases h
   refine⟨by simp,?_,fun m hm hlt=>absurd hlt (Nat.not_lt_zero _)⟩
   show eqU x u=true
   rw[zcT r f.1];exact hy
  ·rw[if_neg hy] at h
   cases hq:xs.findIdx? (fun y=>eqV y x) with
   | none=>rw[hq] at h;cases h
   | some k =>
    rw[hq] at h
    have e:k+1=j:=ztX h
    subst e
    obtain⟨hk,h1,h2⟩:=zar t f.2 hq
    refine⟨by rw[ztE];omega,h1,fun m hm hlt=>?_⟩
    cases m with
    | zero =>
     show eqU x u=false
     rw[zcT r f.1];exact Bool.eq_false_iff.mpr hy
    | succ m=>exact h2 m (by rw[ztE] at hm;omega) (by omega)
def zmF (K:Frag):V->List V->Hp->VK->Prop:=fun x vs H Q=>∃l xs y j,x=.ref l/\vs=[y]/\zP K H l xs/\xX y=true/\xs.all xX=true/\xs.findIdx? (fun z=>eqV z y)=some j/\Q (.int (j:Nat)) H
theorem Sx:MtM X "list.index" (zmF X.K):=by
 intro pins s σ H x vs v us Q I rx rv h
 obtain⟨l,xs,y,j,rfl,rfl,hq,fy,fs,hj,q⟩:=h
 cases rx
 obtain⟨u,rfl,ru⟩:=rv.one
 obtain⟨its,r,⟨o,n,e,hc,hd,hdat⟩,hz⟩:=I.list hq
 obtain⟨cls,dd,dt,sl⟩:=o
 have hc':cls=.type "list" := hc
 have hdat':dt=.seq its.toArray n:=hdat
 subst hc' hdat'
 obtain⟨h1,h2,h3⟩:=zar r fs hj
 have hl:=r.length
 have hn:=Sv
 refine call_meets F.slot_list_index ⟨_,e,rfl⟩ F.entry_list_index (F.args_list_index_2 _ _) (SeqAt.list_indexAt l its.toArray n dd sl u (eqU y) j (by simpa using h1) (by omega) (by simpa using h2) (fun m hm hlt=>by simpa using h3 m (by simpa using hm) hlt)) ⟨e,fun w hw=>V2 ru fy r fs w (by simpa using hw),?_⟩
 exact⟨.int (j:Nat),H,I.tok _,⟨_,rfl⟩,q⟩
def zkG:V->List V->Hp->VK->Prop:=fun x vs H Q=>∃l xs i y,x=.ref l/\vs=[.int i,y]/\H l=some (.lst xs)/\0<=i/\i<=(xs.length:Int)/\xs.length<sizeLine/\Q .non (upd H l (.lst (xs.take i.toNat++y::xs.drop i.toNat)))
theorem zfL {A:Around}{s:Shared}{P:Program}{w:World}{E:Value->Shared->Prop}{Q:Value->Shared->Prop}{l:Addr}{its:List Value}{n:Nat}{i:Int}{t:Tok}{u:Value}(e:s.heap.get? l=some { cls:=.type "list", data:=.seq its.toArray n })(h0:0<=i)(h1:i<=(its.length:Int))(hz:its.length<=sizeLine)
  (h:∀f:Array Value->Array Value,f its.toArray=(its.take i.toNat++u::its.drop i.toNat).toArray->Q .none { s with heap:=s.heap.update l (Obj.mapSeq f),toks:=s.toks }):wpAny (model P w) A (call (.builtin "list.insert") [.ref l,.int i t,u]) Q E s:=by
 have hn:=Sv
 have fit:¬(!Builtin.List.listFitsIndex i)=true:=by
  rw[fitsIndex_both (k:=i) (Int.le_trans (by decide) h0) (by omega)]
  exact ztw
 have hs3:its.toArray.size<=sizeLine:=by rw[ztC];exact hz
 have M:=AutoSeq1.list_insert_list_int_val_1 l its.toArray n i t u fit hs3
 refine call_meets F.slot_list_insert ⟨_,e,rfl⟩ F.entry_list_insert (F.args_list_insert_3 _ _ _) M ⟨e,?_⟩
 refine h _ ?_
 have hk:(if i<0 then (i+(its.toArray.size:Int)).toNat else min i.toNat its.toArray.size)=i.toNat:=by
  rw[if_neg (by omega),ztC]
  omega
 show(its.toArray.extract 0 (if i<0 then (i+(its.toArray.size:Int)).toNat else min i.toNat its.toArray.size)).push u++its.toArray.extract (if i<0 then (i+(its.toArray.size:Int)).toNat else min i.toNat its.toArray.size)=_
 rw[hk]
 apply Array.toList_inj.mp
 simp[List.take_of_length_le]
theorem zhN:MtM X "list.insert" zkG:=by
 intro pins s σ H x vs v us Q I rx rv h
 obtain⟨l,xs,i,y,rfl,rfl,hH,h0,h1,hz,q⟩:=h
 cases rx
 obtain⟨u,w,rfl,⟨t,rfl⟩,rw'⟩:=rv.two
 obtain⟨z,its,n,r,hl,e⟩:=I.ziN hH
 refine zfL e h0 (by rw[<-hl];exact h1) (by omega) fun f hf=>?_
 refine⟨.non,_,I.zky (its':=its.take i.toNat++w::its.drop i.toNat) hH e hf ((r.take i.toNat).append (.cons rw' (r.drop i.toNat))) ?_,rfl,q⟩
 rw[ztA,ztE,ztQ,List.length_drop]
 omega
def ziU (K:Frag):V->List V->Hp->VK->Prop:=fun x vs H Q=>∃l b xs zs,x=.ref l/\vs=[.ref b]/\H l=some (.lst xs)/\wG K H b zs/\xs.length+zs.length<=sizeLine/\Q .non (upd H l (.lst (xs++zs)))
theorem LC (l:Addr)(its:Array Value)(n:Nat)(b:Addr)(its2:Array Value)(n2:Nat)(dd:Option Addr)(sl:Array (Option Value))(h0:¬(!its.isEmpty&&Builtin.List.listTooLong (its.size+its2.size))=true)(h1:its.size<=sizeLine)(h2:its.size+its2.size<=sizeLine+1) :
  Meets (Builtin.«list.extend» ⟨[.ref l,.ref b],[]⟩) (fun _ R s=>s.heap.get? l=some { cls:=.type "list", data:=.seq its n }/\s.heap.get? b=some { cls:=.type "tuple", dict:=dd,data:=.seq its2 n2,slots:=sl } /\
   R (.ok (.ret Value.none)) { s with heap:=s.heap.update l (Obj.mapSeq fun x=>x++its2),toks:=s.toks }) :=
 .of_wp fun prog w A R s h=>by
  obtain⟨hp,g,d,tk,os⟩:=s
  obtain⟨hl,hb,h⟩:=h
  have g1:=AutoSeq1.idx_int
  have g2:=AutoSeq1.sub_tuple_tuple
  have g3:=AutoSeq1.sub_list_list
  have g4:=AutoSeq1.sub_tuple_list
  have g5:=AutoSeq1.sub_list_tuple
  have hz:(its++its2).size<=sizeLine+1:=by rw[Array.size_append];exact h2
  wp_walk using (wpAny_updateSeq hl rfl (hz:=h1) (_hz':=hz)),AutoSeq1.wpAny_loadPart' hl,AutoSeq1.wpAny_loadPart' hb
  exact⟨_,rfl,h⟩
theorem zas:MtM X "list.extend" (ziU X.K):=by
 intro pins s σ H x vs v us Q I rx rv h
 obtain⟨l,b,xs,zs,rfl,rfl,hH,hB,hz,q⟩:=h
 cases rx
 obtain⟨u,rfl,ru⟩:=rv.one
 cases ru
 obtain⟨z,its,n,r,hl,e⟩:=I.ziN hH
 obtain⟨its2,r2,⟨o,e2,hc,n2,hd⟩,z2⟩:=I.tuple hB
 obtain⟨cls,dd,dt,sl⟩:=o
 have hc':cls=.type "tuple" := hc
 have hd':dt=.seq its2.toArray n2:=hd
 subst hc' hd'
 have hl2:=r2.length
 have hsz:its.toArray.size+its2.toArray.size<=sizeLine:=by rw[ztC,ztC];omega
 have ziO:¬(!its.toArray.isEmpty&&Builtin.List.listTooLong (its.toArray.size+its2.toArray.size))=true:=by
  rw[zec hsz,Bool.and_false]
  exact ztw
 refine call_meets F.slot_list_extend ⟨_,e,rfl⟩ F.entry_list_extend (F.args_list_extend_2 _ _)
  (LC l its.toArray n b its2.toArray n2 dd sl ziO (by rw[ztC];omega) (by omega)) ⟨e,e2,?_⟩
 refine⟨.non,_,I.zky (its':=its++its2) hH e (by simp) (r.append r2) ?_,rfl,q⟩
 rw[ztA]
 omega
theorem zbx (bs:List Bool):((List.range bs.length).all fun i=>(bs[i]?).getD true)=bs.all id:=by
 rw[zt8,ztW,ztW]
 constructor
 ·intro h b hb
  obtain⟨i,hi,e⟩:=zua hb
  have q:=h i (List.mem_range.mpr hi)
  rw[ztt hi,Option.getD_some,e] at q
  exact q
 ·intro h i hi
  have hi':=List.mem_range.mp hi
  rw[ztt hi',Option.getD_some]
  exact h _ (zt9 hi')
theorem wV (hc:X.calm=true):uW X (.builtin "all") (fun xs H Q=>∃(p:Addr) (bs:List Bool),xs=[.ref p]/\zP X.K H p (bs.map V.bl)/\Q (.bl (bs.all id)) H):=by
 intro pins s σ H xs us Q I r h
 obtain⟨p,bs,rfl,hq,q⟩:=h
 obtain⟨u,rfl,rx⟩:=vals1 r
 cases rx
 obtain⟨its,r',pl,hz⟩:=I.list hq
 have hlen:bs.length=its.length:=by have:=r'.length;rw[zts] at this;exact this
 have hlt:p<s.heap.objs.size:=by obtain⟨_,e,_⟩:=pl.isList;exact ztz e
 refine call_all_walk (wpAny_pyIter_list pl.isList ?_)
 refine⟨s.heap.objs.size,[s.heap.objs.size,p],[s.heap.objs.size],its.toArray.size,_,_,fun i=>(bs[i]?).getD true,rfl,Walks.list (A:=X.A.in1) (I.ok.hd hc) _ p (ztH hlt) its.toArray,
  ⟨⟨_,ztN _ rfl,rfl,rfl⟩,pl.isList.push _⟩,fun i v s' Q' E' hP hQ=>?_,fun h' tk hk=>?_⟩
 ·have hP':its[i]?=some v:=by simpa using hP
  have hi:i<bs.length:=by
   have:=(ztv.mp hP').1
   omega
  obtain⟨w,hw,rw'⟩:=r'.get (i:=i) (x:=.bl bs[i]) (by rw[ztu,ztt hi];rfl)
  rw[hP'] at hw
  cases hw
  cases rw'
  simp only[ztt hi,Option.getD_some] at hQ
  exact wpAny_truthy_bool hQ
 ·have kp:∀b o,s.heap.get? b=some o->h'.get? b=some o:=fun b o e=>hk b o (fun hm=>by
   rw[List.mem_singleton.mp hm] at e
   exact Nat.lt_irrefl _ (ztz e)) (zty _ e)
  refine⟨.bl _,H,I.kept kp,rfl,?_⟩
  rw[ztC,<-hlen,zbx]
  exact q
theorem vq:uW X (.builtin "isinstance") (fun xs H Q=>∃x T t b,xs=[x,.ty T]/\NZ X.K H x t/\PySem.W.kitOne X.K t (.type T)=some b/\Q (.bl b) H):=by
 intro pins s σ H xs us Q I r h
 obtain⟨x,T,t,b,rfl,ty,e,q⟩:=h
 obtain⟨u,w',rfl,rx,ry⟩:=vals2 r
 cases ry
 exact zhH I rx ty e fun tk=>⟨.bl b,H,I.tok _,rfl,q⟩
end
def met (acc:List Str)(x:Str):List Str:=if acc.any (·==x) then acc else acc++[x]
def dd (xs:List Str):List Str:=xs.foldl met []
theorem J5 (xs:List Str)(x:Str):dd (xs++[x])=met (dd xs) x:=by
 unfold dd
 rw[List.foldl_append]
 rfl
theorem Qa (acc:List Str)(x k:Str):(met acc x).any (·==k)=(acc.any (·==k)||decide (k=x)):=by
 unfold met
 by_cases h:acc.any (·==x)=true
 ·rw[if_pos h]
  by_cases e:k=x
  ·subst e;rw[h];simp
  ·simp[e]
 ·rw[if_neg h,List.any_append]
  by_cases e:k=x
  ·subst e;simp
  ·have hb:(x==k)=false:=by simpa [beq_iff_eq] using (fun z:x=k=>e z.symm)
   simp[hb,e]
theorem Xy (acc:List Str)(x:Str):(met acc x).length=if acc.any (·==x)=true then acc.length else acc.length+1:=by
 unfold met
 split<;>simp
theorem ziV (xs:List Str):(dd xs).length<=xs.length:=by
 suffices h:∀acc:List Str,(xs.foldl met acc).length<=acc.length+xs.length by have:=h [];unfold dd;simpa using this
 induction xs with
 | nil=>intro acc;simp
 | cons x r ih =>
  intro acc
  rw[List.foldl_cons]
  have h1:=ih (met acc x)
  have h2:=Xy acc x
  rw[ztE]
  split at h2<;>omega
theorem zmG (xs:List Str)(k:Str):(dd xs).any (·==k)=xs.any (·==k):=by
 suffices h:∀acc:List Str,(xs.foldl met acc).any (·==k)=(acc.any (·==k)||xs.any (·==k)) by have:=h [];unfold dd;simpa using this
 induction xs with
 | nil=>intro acc;simp
 | cons x r ih =>
  intro acc
  rw[List.foldl_cons,ih,Qa,List.any_cons,Bool.or_assoc]
  congr 2
  by_cases e:k=x
  ·subst e;simp
  ·have e':¬x=k:=fun z=>e z.symm
   simp[e,e']
theorem zef {xs:List Str}(h:xs.Nodup):(dd xs).length=xs.length:=by
 suffices g:∀acc:List Str,(∀x∈xs,acc.any (·==x)=false)->(xs.foldl met acc).length=acc.length+xs.length by have:=g [] (fun _ _=>rfl);unfold dd;simpa using this
 induction xs with
 | nil=>intro acc _;simp
 | cons x r ih =>
  intro acc ha
  obtain⟨hx,hr⟩:=List.nodup_cons.mp h
  rw[List.foldl_cons,ih hr (met acc x) (fun y hy=>?_),Xy,ha x ztM]
  ·simp;omega
  ·rw[Qa,ha y (ztD _ hy)]
   have:y≠x:=fun e=>hx (e ▸ hy)
   simp[this]
theorem zmH {xs:List Str}(h:¬xs.Nodup):(dd xs).length<xs.length:=by
 suffices g:∀acc:List Str,¬xs.Nodup->(xs.foldl met acc).length<acc.length+xs.length by have:=g [] h;unfold dd;simpa using this
 clear h
 have le:∀(ys acc:List Str),(ys.foldl met acc).length<=acc.length+ys.length:=fun ys=>by
  induction ys with
  | nil=>intro acc;simp
  | cons x r ih =>
   intro acc
   rw[List.foldl_cons]
   have h1:=ih (met acc x)
   have h2:=Xy acc x
   rw[ztE]
   split at h2<;>omega
 have mem:∀(ys acc:List Str) (x:Str),x∈ys->acc.any (·==x)=true->(ys.foldl met acc).length<acc.length+ys.length:=fun ys=>by
  induction ys with
  | nil=>intro acc x hx _;cases hx
  | cons y r ih =>
   intro acc x hx ha
   rw[List.foldl_cons,ztE]
   rcases List.mem_cons.mp hx with e | hx
   ·subst e
    have h1:=le r (met acc x)
    have h2:=Xy acc x
    rw[if_pos ha] at h2
    omega
   ·have h1:=ih (met acc y) x hx (by rw[Qa,ha];rfl)
    have h2:=Xy acc y
    split at h2<;>omega
 induction xs with
 | nil=>intro acc h;exact absurd List.nodup_nil h
 | cons x r ih =>
  intro acc h
  rw[List.foldl_cons,ztE]
  by_cases hx:x∈r
  ·have h1:=mem r (met acc x) x hx (by rw[Qa];simp)
   have h2:=Xy acc x
   split at h2<;>omega
  ·have h1:=ih (met acc x) (fun hr=>h (List.nodup_cons.mpr ⟨hx,hr⟩))
   have h2:=Xy acc x
   split at h2<;>omega
abbrev Wh (led:Bool):Obj:={ cls:=.type "set", dict:=none,data:=.set #[] 0 (.fresh 0 0 led) }
section
variable {P:Program}{w:World}{A:Around}{R:Result->Shared->Prop}{E:Value->Shared->Prop}{s:Shared}
theorem ziW {I:Addr}{fp wr:List Addr}{G:Array GenState->Array GenState->Prop}{n:Nat}{Pv:Nat->Value->Prop}{St:Nat->Shared->Prop}(W:WalksS P w A.in1 I fp wr G n Pv St)(S:Addr)(hS:S∉fp)(xs:List Str)(hn:xs.length=n)
  (hv:∀i v,Pv i v->∃t,v=.str (xs.getD i "") t)(hb:n+1<scanBound) :
  ∀(k i:Nat) (z:Shared),n-i=k->i<=n->St i z->z.heap.SetOf (strKind P w) S (fun q=>(dd (xs.take i)).any (·==q)) (dd (xs.take i)).length ->
   (∀z',Moved (S::wr) G z z'->z'.heap.SetOf (strKind P w) S (fun q=>(dd xs).any (·==q)) (dd xs).length->R (.ok (.ret .none)) z') ->
   codeAny (model P w) A (.builtin "set.update.loop" ⟨[.ref S,.ref I],[]⟩) R z:=by
 have ziX:S∉wr:=fun h=>hS (W.sub _ h)
 have more:∀b∈wr,b∈S::wr:=fun b h=>ztD _ h
 intro k
 induction k with
 | zero =>
  intro i z hk hi st zcY fin
  have ei:i=n:=by omega
  subst ei
  refine codeAny_builtin PyProof.Rows.F.entry_set_update_loop ?_
  rw[Around.under_plainId PyProof.Rows.F.plain_set_update_loop _]
  show wpAny _ A.in1 (pyNext (.ref I)>>=_) _ _ z
  refine wpAny_bind (W.done z _ _ st fun z' mv=>?_)
  show wpAny _ A.in1 (ret Value.none) _ _ z'
  refine wpAny_pure (fin z' (mv.mono more) ?_)
  rw[<-hn,ztV] at zcY
  obtain⟨o,es,ep,t,ho,more'⟩:=zcY
  exact⟨o,es,ep,t,mv.heap S _ ziX ho,more'⟩
 | succ k ih =>
  intro i z hk hi st zcY fin
  have il:i<n:=by omega
  refine codeAny_builtin PyProof.Rows.F.entry_set_update_loop ?_
  rw[Around.under_plainId PyProof.Rows.F.plain_set_update_loop _]
  show wpAny _ A.in1 (pyNext (.ref I)>>=_) _ _ z
  refine wpAny_bind (W.item i z _ _ il st fun v z' pv st' mv=>?_)
  obtain⟨t,rfl⟩:=hv i v pv
  have hset':z'.heap.SetOf (strKind P w) S (fun q=>(dd (xs.take i)).any (·==q)) (dd (xs.take i)).length:=by
   obtain⟨o,es,ep,tb,ho,more'⟩:=zcY
   exact⟨o,es,ep,tb,mv.heap S _ ziX ho,more'⟩
  show wpAny _ A.in1 (holding [Value.str (xs.getD i "") t] (setAdd S (.str (xs.getD i "") t))>>=_) _ _ z'
  refine wpAny_bind (wpAny_holding ?_)
  unfold setAdd
  refine wpAny_holding ?_
  refine wpAny_bind ((strKind P w).pyHash (k:=xs.getD i "") (strKind_is _ _ _ _) ?_)
  have hroom:(dd (xs.take i)).length+1<scanBound:=by
   have:=ziV (xs.take i)
   rw[ztQ] at this
   omega
  have et:xs.take (i+1)=xs.take i++[xs.getD i ""]:=by
   rw[List.take_succ,ztF,ztt (by omega)]
   rfl
  refine wpAny_setAddHashed_of (knd:=strKind P w) (s:={ z' with toks:=z'.toks+1 }) (strKind_is _ _ _ _) rfl hset' hroom fun h' sb s2=>?_
  have ziY:h'.SetOf (strKind P w) S (fun q=>(dd (xs.take (i+1))).any (·==q)) (dd (xs.take (i+1))).length :=
   SetOf_congr s2 (fun q=>by rw[et,J5,Qa]) (by rw[et,J5,Xy])
  refine wpAny_pure ⟨plainId_quiet PyProof.Rows.F.plain_set_update_loop _,ih (i+1) _ (by omega) il (W.frame _ z' _ _ st' (Nat.le_succ _) fun b hb' o e=>?_) ziY fun z'' mv2 s3=>?_⟩
  ·rw[sb.2 b (fun h:b=S=>hS (by rw[<-h];exact hb'))];exact e
  ·refine fin z'' (Moved.trans W.gtrans ((mv.mono more).then_heap (Nat.le_succ _) fun b o hb' e=>?_) mv2) s3
   rw[sb.2 b (fun h:b=S=>hb' (by rw[h];exact ztM))];exact e
theorem zgS {xs:List Str}:∀{us:List Value},Vals (xs.map V.str) us->∀(i:Nat) (v:Value),us[i]?=some v->∃t,v=.str (xs.getD i "") t:=by
 intro us r i v h
 have hl:=r.length
 rw[zts] at hl
 have hi:i<xs.length:=by have:=(ztv.mp h).1;omega
 obtain⟨u,hu,t,e⟩:=r.get (i:=i) (x:=.str xs[i]) (by rw[ztu,ztt hi];rfl)
 rw[h] at hu
 cases hu
 refine⟨t,?_⟩
 rw[e,ztF,ztt hi]
 rfl
set_option maxHeartbeats 8000000 in
theorem ziZ {l:Addr}{us:List Value}{xs:List Str}{Q:Value->Shared->Prop}(hh:A.handled=none)(hl:s.heap.IsList l us.toArray)(r:Vals (xs.map V.str) us)(hb:xs.length+1<scanBound)
  (h:∀(h':Heap) (tk:Nat),h'.SetOf (strKind P w) s.heap.objs.size (fun q=>(dd xs).any (·==q)) (dd xs).length->(∀b o,s.heap.get? b=some o->h'.get? b=some o)->Q (.ref s.heap.objs.size) { s with heap:=h',toks:=tk }) :
  wpAny (model P w) A (call (.type "set") [.ref l]) Q E s:=by
 have hlen:xs.length=us.toArray.size:=by have:=r.length;rw[zts] at this;simpa using this
 obtain⟨cc,tl,hmro⟩:=F.called_set.mro
 have made:=F.called_set.made
 have sub:=F.called_set.sub
 refine wpAny_call (codeAny_of_tree ?_)
 show wpAny _ _ (callAny (.type "set") _) _ _ _
 refine wpAny_pure ⟨Code.quiet_builtin _ (by decide +kernel),codeAny_builtin F.entry_type_call ?_⟩
 rw[Around.under_plain (weight_type_call_type "set" [.ref l] []) rfl]
 have a1:=F.called_set.notType
 have a2:=F.called_set.canCreate
 have a3:=F.typeCall_set_1 (.ref l)
 repeat (any_goals (first | assumption | wp_step))
 refine codeAny_mono (code_set_new_1 (.ref l) (E:=E) (Q₁:=fun ob z=>∃led:Bool,ob=.ref s.heap.objs.size/\z={ s with heap:=s.heap.push { cls:=.type "set", dict:=none,data:=.set #[] 0 (.fresh 0 0 led) } }) fun led=>⟨led,rfl,rfl⟩) fun res z hres=>?_
 cases res with
 | error e=>exact hres
 | ok fl =>
  cases fl with
  | ret ob =>
   obtain⟨led,rfl,rfl⟩:=hres
   have gS:(s.heap.push (Wh led)).get? s.heap.objs.size=some (Wh led):=ztN _ rfl
   have tS:Shared.TypeIs { s with heap:=s.heap.push (Wh led) } (.ref s.heap.objs.size) "set" := ⟨_,gS,rfl⟩
   have b1:=F.called_set.init.lookup
   have b2:=F.called_set.init.bind (.ref s.heap.objs.size)
   repeat (any_goals (first | assumption | wp_step))
   refine codeAny_mono (codeAny_call_builtin (R:=wants (fun v z=>v=.none/\∃h' tk,z={ s with heap:=h',toks:=tk }/\h'.SetOf (strKind P w) s.heap.objs.size (fun q=>(dd xs).any (·==q)) (dd xs).length/\(∀b o,s.heap.get? b=some o->h'.get? b=some o)) E)
    F.called_set.init.plain F.entry_set_init (check_set_init_1 tS ?_)) fun res2 z2 zat=>?_
   ·obtain⟨ol,gl,cl,nl,dl⟩:=hl
    obtain⟨ocls,odict,odata,oslots⟩:=ol
    have cl':ocls=.type "list" := cl
    have dl':odata=.seq us.toArray nl:=dl
    subst cl' dl'
    have gl':(s.heap.push (Wh led)).get? l=some { cls:=.type "list", dict:=odict,data:=.seq us.toArray nl,slots:=oslots }:=zty _ gl
    have c1:=F.sub_list_set
    have c2:=F.sub_list_frozenset
    have c3:(Value.type "list" == Value.type "dict")=false:=by decide
    have isl:(s.heap.push (Wh led)).IsList l us.toArray:=⟨_,gl',rfl,nl,rfl⟩
    unfold Builtin.«set.__init__» noKeywords Builtin.Frozenset.updateFrom
    generalize hit:pyIter=itf
    wp_walk
    subst hit
    refine wpAny_pyIter_list isl ?_
    refine wpAny_bind (wpAny_runValue ?_)
    have ltl:l<s.heap.objs.size:=ztz gl
    have hd3:A.in1.in1.in1.handled=none:=by simp[hh]
    have sz1:(s.heap.push (Wh led)).objs.size=s.heap.objs.size+1:=Heap.size_push ..
    have nel:l≠(s.heap.push (Wh led)).objs.size:=by rw[sz1];exact ztH (Nat.lt_succ_of_lt ltl)
    have nin:s.heap.objs.size∉[(s.heap.push (Wh led)).objs.size,l]:=by
     rw[sz1]
     simp only[List.mem_cons,ztT,or_false,not_or]
     exact⟨ztH (Nat.lt_succ_self _),Nat.ne_of_gt ltl⟩
    refine ziW ((Walks.list hd3 _ l nel us.toArray).toS) s.heap.objs.size nin xs hlen (fun i v hv=>zgS r i v (by simpa using hv)) (by rw[<-hlen];exact hb) (us.toArray.size-0) 0 _ (by omega) (ztP _)
     ⟨⟨_,ztN _ rfl,rfl,rfl⟩,isl.push _⟩ ?s0 ?fin
    case s0 =>
     have gg:((s.heap.push (Wh led)).push { cls:=.type "list_iterator", data:=.fields #[.ref l,.int 0 0] }).get? s.heap.objs.size=some (Wh led):=zty _ gS
     exact SetOf_congr ((setObjOf_fresh (knd:=strKind P w) led).setOf gg (by unfold scanBound;omega)) (fun _=>rfl) rfl
    case fin =>
     intro z mv sz
     obtain⟨h',g',d',tk',os'⟩:=z
     have e1:g'=s.gens:=mv.gens
     have e2:d'=s.drawn:=mv.drawn
     have e3:os'=s.os:=mv.os
     subst e1 e2 e3
     show wpAny _ _ _ _ _ _
     refine wpAny_pure ?_
     show wpAny _ _ (ret Value.none) _ _ _
     refine wpAny_pure ⟨rfl,h',tk',rfl,sz,fun b o e=>?_⟩
     have lb:=ztz e
     have n1:b≠s.heap.objs.size:=ztH lb
     have n2:b≠(s.heap.push (Wh led)).objs.size:=by rw[sz1];exact ztH (Nat.lt_succ_of_lt lb)
     exact mv.heap b o (by simp only[List.mem_cons,ztT,or_false,not_or];exact⟨n1,n2⟩) (zty _ (zty _ e))
   ·cases res2 with
    | error e=>exact zat
    | ok fl2 =>
     cases fl2 with
     | ret v =>
      obtain⟨rfl,h',tk,rfl,sS,kk⟩:=zat
      repeat (any_goals (first | assumption | wp_step))
      exact h _ _ sS kk
     | _=>exact zat.elim
  | _=>exact hres.elim
end
section
variable {X:Cx}
def zkI (P:Program)(w:World)(a:Addr)(n:Nat):HO:=.ext fun h=>∃S,h.SetOf (strKind P w) a S n
theorem zi0 (hc:X.calm=true):uW X (.type "set") (fun xs H Q=>∃(p:Addr) (ts:List Str),xs=[.ref p]/\zP X.K H p (ts.map V.str)/\ts.length<=100/\∀q,H q=none->Q (.ref q) (upd H q (zkI X.prog X.w q (dd ts).length))):=by
 intro pins s σ H xs us Q I r h
 obtain⟨p,ts,rfl,hq,h100,q⟩:=h
 obtain⟨u,rfl,rx⟩:=vals1 r
 cases rx
 obtain⟨its,r',pl,hz⟩:=I.list hq
 refine ziZ (I.ok.hd hc) pl.isList r' (Nat.lt_of_le_of_lt (Nat.add_le_add_right h100 1) (by decide)) fun h' tk hS hk=>?_
 refine⟨.ref s.heap.objs.size,_,I.laid hk (ztI _) (o:=zkI X.prog X.w s.heap.objs.size (dd ts).length) ?_,rfl,q _ (I.hok.fresh (ztI _))⟩
 refine⟨⟨_,hS⟩,?_,?_⟩
 ·obtain⟨o,es,ep,t,ho,_⟩:=hS
  exact⟨o,ho⟩
 ·rintro h1 h2 ⟨S,o,es,ep,t,ho,rest⟩ k
  exact⟨S,o,es,ep,t,k o ho,rest⟩
theorem call_len_set':uW X (.builtin "len") (fun xs H Q=>∃(p:Addr) (n:Nat),xs=[.ref p]/\H p=some (zkI X.prog X.w p n)/\Q (.int n) H):=by
 intro pins s σ H xs us Q I r h
 obtain⟨p,n,rfl,hp,q⟩:=h
 obtain⟨u,rfl,rx⟩:=vals1 r
 cases rx
 obtain⟨⟨S,o,es,ep,t,ho,hex,hd,_,_,hb,hf,hn⟩,_⟩:=I.hok p _ hp
 have h63:(es.size:Int)<2^63:=by
  have h1:scanBound<2^63:=by decide
  omega
 refine call_len_set ho hex hd hf h63 ⟨.int n,H,I.tok _,⟨s.toks+1,?_⟩,q⟩
 rw[hn]
def zkJ (K:Frag)(P:Program)(w:World)(a:Addr)(kvs:List (Str×Value)):Prop:=(a==sysModules)=false/\∃o,K.lookup a=some o/\o.IsDictOf (strKind P w) kvs
theorem zcZ {a:Addr}{kvs:List (Str×Value)}(hd:zkJ X.K X.prog X.w a kvs):IxR X (fun x y H Q=>∃k u v,x=.ref a/\y=.str k/\valueAt kvs k=some u/\RelV v u/\Q v H):=by
 intro value slice pins s σ H x y v u Q I rx ry h hs
 obtain⟨k,z,vv,rfl,rfl,hv,rv,q⟩:=h
 cases rx
 obtain⟨t,rfl⟩:=ry
 obtain⟨_,o,hk,hdd⟩:=hd
 have D:s.heap.DictOf (strKind X.prog X.w) a kvs:=Heap.dictOf_iff.mpr ⟨o,I.Ln a o hk,hdd⟩
 exact tail_any D.typeIs slot_dict_getitem.lookup (wpAny_getItem_of (strKind_is _ _ k t) D.mapOf hv ⟨vv,H,I.tok _,rv,q⟩) hs
theorem zby {a:Addr}{kvs:List (Str×Value)}(hd:zkJ X.K X.prog X.w a kvs):Uq X (compareOp .NotIn) (fun x y H Q=>∃k,x=.str k/\y=.ref a/\Q (.bl (!(valueAt kvs k).isSome)) H):=by
 intro pins s σ H x y v u Q I rx ry h
 obtain⟨k,rfl,rfl,q⟩:=h
 cases ry
 obtain⟨t,rfl⟩:=rx
 obtain⟨hs,o,hk,hdd⟩:=hd
 have D:s.heap.DictOf (strKind X.prog X.w) a kvs:=Heap.dictOf_iff.mpr ⟨o,I.Ln a o hk,hdd⟩
 exact wpAny_notIn_of (strKind_is _ _ k t) hs D.mapOf ⟨.bl _,H,I.tok _,rfl,q⟩
theorem Inv.zc0 {pins:List (Addr×Obj)}{σ:St}{H:Hp}{s:Shared}{h':Heap}{t':Nat}{fp:List Addr}(I:Inv X pins σ H s)(k:∀b o,b∉fp->s.heap.get? b=some o->h'.get? b=some o)(ex:∀b∈fp,∃o,h'.get? b=some o)(hf:∀b∈fp,zbt X pins H b) :
  Inv X pins σ H { s with heap:=h',toks:=t' }:=by
 have nit:∀b u,H b=some u->b∉fp:=fun b u e z=>by rw[(hf b z).1] at e;cases e
 refine I.step (g':=s.gens) (d':=s.drawn) (ch:=fp) (fun b hb=>⟨(hf b hb).2.2.2.1,(hf b hb).2.1,(hf b hb).2.2.2.2.1,(hf b hb).2.2.2.2.2⟩) (fun b o _ _ hc e _=>k b o hc e) (fun b o _ _ hc e _=>⟨o.slots,k b o hc e⟩) (fun _ _ _ _ n=>n)
  (fun b o hc e=>⟨o,k b o hc e⟩) (fun _ _ e=>e) (fun _ _ _ e=>e) (fun b ps e=>⟨#[],by rw[e];simp⟩) (fun m hm=>?_) (fun b u e=>?_) I.bare
 ·obtain⟨o,es,ep,ho,r⟩:=hm
  exact⟨o,es,ep,k _ o (fun z=>(hf _ z).2.1 rfl) ho,r⟩
 ·refine(I.hok b u e).stay (fun c v hc q=>k c v ?_ q) (fun _ q=>q) fun _ _ q=>q
  rcases hc with z | z
  ·rw[z];exact nit b u e
  ·exact nit c _ z
def Ite (K:Frag)(a:Addr):It :=
 ⟨fun i H=>∃xs x,zP K H a xs/\xs[i]?=some x,fun i H x H'=>∃p y,(∀xs,zP K H a xs->xs[i]?=some y)/\x=.ref p/\H p=none/\H'=upd H p (.tup [.int (i:Nat),y]),fun i H=>∃xs,zP K H a xs/\xs.length<=i⟩
theorem zhO {P:Program}{w:World}{K:Frag}{els:List Expr}{x1}{pt:Pos}(a e it:Addr)(hne:e≠it):Turn P w K (.Tuple els x1 pt) (Ite K a) [e,it] e (fun i h=>(∃old,IsEnum h e it (i:Nat) old)/\h.IsListIter it a i) where
 mem:=by simp
 obj:=fun i h st b hb=>by
  rcases List.mem_cons.mp hb with z | z
  ·obtain⟨⟨old,q⟩,_⟩:=st
   rw[z]
   exact⟨_,q,fun v hv=>by cases hv⟩
  ·have z':b=it:=by simpa using z
   obtain⟨_,o,q,c,d⟩:=st
   rw[z']
   exact⟨o,q,fun v hv=>by rw[d] at hv;cases hv⟩
 keep:=fun i h h' st k=>by
  obtain⟨⟨old,q⟩,q2⟩:=st
  exact⟨⟨old,k e (by simp) _ q⟩,q2.at fun o z=>k it (by simp) o z⟩
 item:=by
  intro X hP hw hK hc i pins s σ H E I hf st hg
  subst hP hw hK
  obtain⟨xs,x,hq,hx⟩:=hg
  obtain⟨⟨old,he⟩,hit⟩:=st
  obtain⟨its,rv,pl,hz⟩:=I.list hq
  obtain⟨u,hu,ru⟩:=rv.get hx
  refine wpAny_pyNext_enum_item he hit pl.isList (x:=u) (by simpa using hu) hne fun h1 out hit1 tup sz k1=>?_
  refine⟨.ref s.heap.objs.size,rfl,wpAny_letOwnedTupleGo_enum out fun h2 he2 sb=>?_⟩
  have lte:=ztz he
  have k2:∀b o,b∉[e,it]->s.heap.get? b=some o->h2.get? b=some o:=fun b o hb q=>by
   have hb':b≠e/\b≠it:=by simpa using hb
   exact(sb.2 b hb'.1).trans (k1 b o hb'.1 hb'.2 q)
  have hit2:h2.IsListIter it a (i+1):=hit1.at fun o z=>(sb.2 it (Ne.symm hne)).trans z
  have J1:Inv X pins σ H { s with heap:=h2,toks:=s.toks+1 }:=I.zc0 (fp:=[e,it]) k2 (fun b hb=>by
   rcases List.mem_cons.mp hb with z | z
   ·rw[z];exact⟨_,he2⟩
   ·have z':b=it:=by simpa using z
    obtain⟨o,q,_⟩:=hit2
    rw[z'];exact⟨o,q⟩) hf
  have zi1:h2.get? s.heap.objs.size=some { cls:=.type "tuple", data:=.seq #[.int i s.toks,u] }:=(sb.2 _ (Nat.ne_of_gt lte)).trans tup
  have ltc:∀y c,X.env.cells.lookup y=some c->c≠s.heap.objs.size:=fun y c q=>by
   obtain⟨v,o,z,_⟩:=I.cell y c q
   exact ztH (ztz z)
  have ltp:∀p∈X.pn++pins,p.1≠s.heap.objs.size:=fun p hp=>ztH (ztz (I.pin p hp).1)
  have J2:=J1.track (a:=s.heap.objs.size) (o:=.tup [.int (i:Nat),x]) I.fresh (Ne.symm (ztH I.lt)) I.sz ltc ltp ⟨by show 2<=sizeLine;decide,[.int i s.toks,u],.cons ⟨_,rfl⟩ (.cons ru .nil),⟨_,zi1,rfl,_,rfl⟩⟩
  refine⟨.ref s.heap.objs.size,_,J2,rfl,⟨_,x,fun ys hy=>by rw[I.Wf hy hq];exact hx,rfl,I.fresh,rfl⟩,⟨⟨u,?_⟩,hit2⟩,fun b hb=>?_⟩
  ·have:=he2
   simpa using this
  ·have lb:b<s.heap.objs.size:=by
    rcases List.mem_cons.mp hb with z | z
    ·rw[z];exact lte
    ·have z':b=it:=by simpa using z
     obtain⟨o,q,_⟩:=hit
     rw[z'];exact ztz q
   rw[zB (ztH lb)]
   exact(hf b hb).1
 done:=by
  intro X hP hw hK hc i pins s σ H E I hf st hg
  subst hP hw hK
  obtain⟨xs,hq,hx⟩:=hg
  obtain⟨⟨old,he⟩,hit⟩:=st
  obtain⟨its,rv,pl,hz⟩:=I.list hq
  have hl:=rv.length
  obtain⟨f0,f1,f2,f3,f4,f5⟩:=hf it (by simp)
  exact wpAny_pyNext_enum_end (I.ok.hd hc) he hit pl.isList (by simp;omega) fun h' eb=>⟨rfl,I.turned (t':=s.toks) (fun b o hb q=>eb b o hb q) f0 f1 f3 f4 f5⟩
 self:=fun _ _ _ _ _ st h=>let ⟨⟨_,he⟩,_⟩:=st;wpAny_pyIter_enum he h
def znK (K:Frag)(ta:TA):TI:=fun σ H R=>ta σ H fun vs H1=>∃a xs,vs=[.ref a]/\zP K H1 a xs/\R (Ite K a) H1
theorem boot_enumerate:bootBuiltins "enumerate"=some (.type "enumerate"):=by decide +kernel
theorem zkK {l:Expr}{ta:TA}{p pos:Pos}{els:List Expr}{x1}{pt:Pos}(hg:Gl X "enumerate")(hm:X.mg "enumerate"=none)(ha:PA X [l] ta)(hs:starEach [l] X.env=[(false,eval l X.env)]:=by rfl) :
  PI X (.Tuple els x1 pt) (.Call (.Name "enumerate" p) [l] [] pos) (znK X.K ta):=by
 intro pins s σ H R I h
 refine Call_ (Wc I hg hm boot_enumerate (PyProof.Rows.callWith_type1 (wM (ha pos pins s σ H _ I h) fun us s1 ⟨vs,H1,I1,r1,q1⟩=>?_) hs rfl))
 obtain⟨a,xs,e,hq,q⟩:=q1
 subst e
 obtain⟨u,rfl,ru⟩:=vals1 r1
 cases ru
 obtain⟨its,rv,pl,hz⟩:=I1.list hq
 refine call_enumerate_list pl.isList fun h' he hit hsz hk=>?_
 have J:Inv X pins σ H1 { s1 with heap:=h',toks:=s1.toks }:=I1.kept hk
 refine wpAny_pyIter_enum he ?_
 refine⟨s1.heap.objs.size+1,[s1.heap.objs.size+1,s1.heap.objs.size],_,_,H1,rfl,J,zhO a _ _ (Nat.ne_of_gt (Nat.lt_succ_self _)),⟨⟨_,he⟩,hit⟩,fun b hb=>?_,q⟩
 have gb:s1.heap.objs.size<=b:=by
  rcases List.mem_cons.mp hb with z | z
  ·rw[z];exact Nat.le_succ _
  ·have z':b=s1.heap.objs.size:=by simpa using z
   rw[z'];exact ztI _
 exact I1.zd7 gb (I1.hok.fresh gb)
theorem zi2 {K:Frag}{a:Addr}{xs:List V}{g:TG}{tb:TS}{D:Ends}{σ:St}{H:Hp}(Pv:Nat->St->Hp->Prop)(h0:Pv 0 σ H)(hl:∀i σ H,i<=xs.length->Pv i σ H->zP K H a xs)
  (hs:∀i x σ H p,xs[i]?=some x->Pv i σ H->H p=none->g (.ref p) σ (upd H p (.tup [.int (i:Nat),x])) fun σ2 H2=>tb { D with nx:=Pv (i+1),ct:=Pv (i+1),bk:=D.nx } σ2 H2)(hd:∀ σ H,Pv xs.length σ H->D.nx σ H) :
  ∃W:Nat->Nat->St->Hp->Prop,(∃m,W 0 m σ H)/\∀i m σ H,W i m σ H ->
   ((Ite K a).stop i H/\D.nx σ H)\/((Ite K a).go i H/\∃N:St->Hp->Prop,(∀ σ' H',N σ' H'->∃m',m'<m/\W (i+1) m' σ' H')/\∀x H',(Ite K a).R7 i H x H'->g x σ H' fun σ2 H2=>tb { D with nx:=N,ct:=N,bk:=D.nx } σ2 H2):=by
 refine⟨fun i m σ H=>m=xs.length-i/\i<=xs.length/\Pv i σ H,⟨xs.length,by simp,ztP _,h0⟩,?_⟩
 rintro i m σ H ⟨rfl,hi,p⟩
 have q:=hl i σ H hi p
 by_cases hlt:i<xs.length
 ·refine .inr ⟨⟨xs,xs[i],q,by simp[hlt]⟩,Pv (i+1),fun σ' H' p'=>⟨xs.length-(i+1),by omega,rfl,hlt,p'⟩,fun x H' y=>?_⟩
  obtain⟨pp,z,q1,rfl,q3,rfl⟩:=y
  exact hs i z σ H pp (q1 xs q) p q3
 ·have e:i=xs.length:=by omega
  subst e
  exact .inl ⟨⟨xs,q,ztI _⟩,hd σ H p⟩
end
theorem yc:bootBuiltins "len"=some (.builtin "len"):=by decide +kernel
theorem Yk:bootBuiltins "all"=some (.builtin "all"):=by decide +kernel
theorem xP:bootBuiltins "isinstance"=some (.builtin "isinstance"):=by decide +kernel
theorem zau:bootBuiltins "int"=some (.type "int"):=by decide +kernel
theorem zkL:bootBuiltins "bool"=some (.type "bool"):=by decide +kernel
theorem zfM:bootBuiltins "str"=some (.type "str"):=by decide +kernel
theorem zeg:bootBuiltins "tuple"=some (.type "tuple"):=by decide +kernel
theorem YC:bootBuiltins "list"=some (.type "list"):=by decide +kernel
theorem zi3:bootBuiltins "set"=some (.type "set"):=by decide +kernel
theorem zfN {v:V}{u:Value}(h:zbs u=some v):RelV v u:=by
 cases u<;>simp only[zbs,Option.some.injEq,reduceCtorEq] at h<;>subst h<;>first | exact rfl | exact⟨_,rfl⟩
theorem K5:∀{us:List Value} {xs:List V},us.map zbs=xs.map some->Vals xs us
 | [],[],_=>.nil
 | u::us,x::xs,h=>by
  rw[ztR,ztR] at h
  injection h with h1 h2
  exact .cons (zfN h1) (K5 h2)
 | [],_::_,h=>by cases h
 | _::_,[],h=>by cases h
theorem zlO {K:Frag}{H:Hp}{p:Addr}{od:Option Addr}{it:Array Value}{n:Nat}{sl:Array (Option Value)}{xs:List V}(l:K.lookup p=some ⟨.type "tuple", od,.seq it n,sl⟩)(v:it.toList.map zbs=xs.map some)(hz:xs.length<=1000):wG K H p xs:=by
 have r:=K5 v
 refine .inr ⟨_,it,n,l,rfl,rfl,?_,r⟩
 have e:xs.length=it.size:=by have:=r.length;simpa using this
 rw[<-e]
 exact ztL (zN hz)
theorem zmI {P:Program}{w:World}:Pairs (strKind P w) [] []/\∀e∈([]:List DictEntry),∃k,(strKind P w).is k e.key=true/\e.hash=(strKind P w).hash k:=⟨.nil,fun _ h=>nomatch h⟩
theorem zkM {P:Program}{w:World}{k:Str}{t:Tok}{v:Value}{es:List DictEntry}{kvs:List (Str×Value)}(h:Pairs (strKind P w) es kvs/\∀e∈es,∃k,(strKind P w).is k e.key=true/\e.hash=(strKind P w).hash k) :
  Pairs (strKind P w) (⟨hashStr w k,.str k t,v⟩::es) ((k,v)::kvs)/\∀e∈(⟨hashStr w k,.str k t,v⟩::es:List DictEntry),∃k,(strKind P w).is k e.key=true/\e.hash=(strKind P w).hash k:=by
 refine⟨.cons (strKind_is _ _ k t) rfl h.1,fun e he=>?_⟩
 rcases List.mem_cons.mp he with z | z
 ·subst z;exact⟨k,strKind_is _ _ k t,rfl⟩
 ·exact h.2 e z
theorem zkN {P:Program}{w:World}{K:Frag}{p:Addr}{es:Array DictEntry}{ep:Nat}{el:List DictEntry}{kvs:List (Str×Value)}(l:K.lookup p=some ⟨.type "dict", none,.dict es ep,#[]⟩)(e:es.toList=el)(s:(p==sysModules)=false)
  (h:Pairs (strKind P w) el kvs/\∀e∈el,∃k,(strKind P w).is k e.key=true/\e.hash=(strKind P w).hash k)(nd:(kvs.map (·.1)).Nodup):zkJ K P w p kvs:=by
 subst e
 exact⟨s,_,l,es,ep,⟨rfl,rfl,rfl⟩,rfl,fun x hx=>h.2 x (by simpa using hx),h.1,nd⟩
end L2
namespace yU
open PySem
inductive Sn where
 | c0 (y:Bool)
 | mk (x:Str)
 | nt (s:Sn)
 | b2 (o:Fin 4) (s t:Sn)
 | q1 (o:Bool) (x:Str) (s:Sn)
def w2:Fin 4->Str
 | 0 => "and"
 | 1 => "or"
 | 2 => "either"
 | 3 => "if"
namespace Sn
def word:Sn->Str
 | c0 true => "yes"
 | c0 false => "no"
 | mk _ => "mark"
 | nt _ => "not"
 | b2 o _ _=>w2 o
 | q1 true _ _ => "some"
 | q1 false _ _ => "each"
def letters:Sn->List Str
 | mk x=>[x]
 | q1 _ x _=>[x]
 | _=>[]
def parts:Sn->List Sn
 | nt s=>[s]
 | b2 _ s t=>[s,t]
 | q1 _ _ s=>[s]
 | _=>[]
def count:Sn->Nat
 | nt s=>1+s.count
 | b2 _ s t=>1+(s.count+t.count)
 | q1 _ _ s=>1+s.count
 | _=>1
def depth:Sn->Nat
 | nt s=>1+s.depth
 | b2 _ s t=>1+max s.depth t.depth
 | q1 _ _ s=>1+s.depth
 | _=>1
def QF (os:List Str):Sn->Prop
 | c0 _=>True
 | mk x=>x∈os
 | nt s=>s.QF os
 | b2 _ s t=>s.QF os/\t.QF os
 | q1 _ x s=>x∈os/\s.QF os
def op2:Fin 4->Bool->Bool->Bool
 | 0,a,b=>a&&b
 | 1,a,b=>a||b
 | 2,a,b=>a != b
 | 3,a,b=>!a||b
def val:Sn->(Str->Bool)->Bool
 | c0 y,_=>y
 | mk x,e=>e x
 | nt s,e=>!s.val e
 | b2 o s t,e=>op2 o (s.val e) (t.val e)
 | q1 true x s,e=>s.val (fun y=>if y=x then true else e y)||s.val (fun y=>if y=x then false else e y)
 | q1 false x s,e=>s.val (fun y=>if y=x then true else e y)&&s.val (fun y=>if y=x then false else e y)
theorem val_congr {os:List Str}:∀(s:Sn) {e e':Str->Bool},s.QF os->(∀x∈os,e x=e' x)->s.val e=s.val e'
 | c0 _,_,_,_,_=>rfl
 | mk x,_,_,h,q=>q x h
 | nt s,_,_,h,q=>by unfold val;rw[val_congr s h q]
 | b2 o s t,_,_,h,q=>by unfold val;rw[val_congr s h.1 q,val_congr t h.2 q]
 | q1 o x s,e,e',h,q=>by
  have k:∀b:Bool,s.val (fun y=>if y=x then b else e y)=s.val (fun y=>if y=x then b else e' y):=fun b=>val_congr s h.2 fun y hy=>by
   by_cases hx:y=x
   ·rw[if_pos hx,if_pos hx]
   ·rw[if_neg hx,if_neg hx,q y hy]
  cases o<;>(unfold val;rw[k,k])
theorem Qc:∀s:Sn,1<=s.depth
 | c0 _=>ztI _
 | mk _=>ztI _
 | nt _=>by unfold depth;omega
 | b2 _ _ _=>by unfold depth;omega
 | q1 _ _ _=>by unfold depth;omega
theorem K6:∀s:Sn,s.count=1+(s.parts.map count).sum
 | c0 _=>rfl
 | mk _=>rfl
 | nt _=>by simp[count,parts]
 | b2 _ _ _=>by simp[count,parts]
 | q1 _ _ _=>by simp[count,parts]
theorem Sy:∀(s:Sn),∀t∈s.parts,t.depth+1<=s.depth
 | c0 _,t,h=>by simp[parts] at h
 | mk _,t,h=>by simp[parts] at h
 | nt s,t,h=>by simp[parts] at h;subst h;show t.depth+1<=1+t.depth;omega
 | b2 _ s u,t,h=>by
  simp[parts] at h
  rcases h with h | h
  ·subst h;show t.depth+1<=1+max t.depth u.depth;omega
  ·subst h;show t.depth+1<=1+max s.depth t.depth;omega
 | q1 _ _ s,t,h=>by simp[parts] at h;subst h;show t.depth+1<=1+t.depth;omega
theorem zb9 {os:List Str}:∀(s:Sn),s.QF os->∀t∈s.parts,t.QF os
 | c0 _,_,t,h=>by simp[parts] at h
 | mk _,_,t,h=>by simp[parts] at h
 | nt s,q,t,h=>by simp[parts] at h;subst h;exact q
 | b2 _ s u,q,t,h=>by
  simp[parts] at h
  rcases h with h | h<;>subst h
  ·exact q.1
  ·exact q.2
 | q1 _ _ s,q,t,h=>by simp[parts] at h;subst h;exact q.2
theorem zeh {os:List Str}:∀(s:Sn),s.QF os->∀x∈s.letters,x∈os
 | c0 _,_,t,h=>by simp[letters] at h
 | mk _,q,t,h=>by simp[letters] at h;subst h;exact q
 | nt s,q,t,h=>by simp[letters] at h
 | b2 _ s u,q,t,h=>by simp[letters] at h
 | q1 _ _ s,q,t,h=>by simp[letters] at h;subst h;exact q.1
end Sn
theorem vA (b p:Nat):(b+2^p).testBit p=!b.testBit p:=by rw[Nat.add_comm];exact Nat.testBit_two_pow_add_eq b p
theorem Qd {b p j:Nat}(h:j<p):(b+2^p).testBit j=b.testBit j:=by rw[Nat.add_comm];exact Nat.testBit_two_pow_add_gt h b
theorem zi4 {b p:Nat}(h:b.testBit p=false):b%2^(p+1)<2^p:=by
 have e:b%2^(p+1)=b%2^p+2^p*(b / 2^p%2):=by
  rw[Nat.pow_succ];exact Nat.mod_mul
 have z:b / 2^p%2=0:=by
  rw[Nat.testBit_eq_decide_div_mod_eq] at h
  have:=of_decide_eq_false h
  omega
 rw[e,z,Nat.mul_zero,Nat.add_zero]
 exact Nat.mod_lt b (Nat.two_pow_pos p)
theorem zi5 (x i j:Nat):x.testBit (i+j)=(x / 2^i).testBit j:=by
 rw[Nat.testBit_div_two_pow,Nat.add_comm]
theorem zca {b p j:Nat}(h:p<j)(h0:b.testBit p=false):(b+2^p).testBit j=b.testBit j:=by
 obtain⟨k,rfl⟩:∃k,j=(p+1)+k:=⟨j-(p+1),by omega⟩
 rw[zi5,zi5]
 have hm:=zi4 h0
 have e:(b+2^p) / 2^(p+1)=b / 2^(p+1):=by
  have hp:2^(p+1)=2^p+2^p:=by rw[Nat.pow_succ];omega
  have d:=Nat.div_add_mod b (2^(p+1))
  have pos:=Nat.two_pow_pos (p+1)
  rw[Nat.div_eq_iff pos]
  have c:b / 2^(p+1)*2^(p+1)=2^(p+1)*(b / 2^(p+1)):=Nat.mul_comm _ _
  rw[c]
  omega
 rw[e]
def zM (b p:Nat)(v:Bool):Nat:=if b.testBit p=v then b else if v then b+2^p else b-2^p
theorem zcb {b p:Nat}(h:b.testBit p=true):2^p<=b:=Nat.ge_two_pow_of_testBit h
theorem zQ (b p j:Nat)(v:Bool):(zM b p v).testBit j=if j=p then v else b.testBit j:=by
 unfold zM
 by_cases h:b.testBit p=v
 ·rw[if_pos h]
  by_cases hj:j=p
  ·rw[if_pos hj,hj,h]
  ·rw[if_neg hj]
 ·rw[if_neg h]
  cases v with
  | true =>
   have h0:b.testBit p=false:=by simpa using h
   rw[if_pos rfl]
   by_cases hj:j=p
   ·subst hj;rw[if_pos rfl,vA,h0];rfl
   ·rw[if_neg hj]
    rcases Nat.lt_or_gt_of_ne hj with q | q
    ·exact Qd q
    ·exact zca q h0
  | false =>
   have h1:b.testBit p=true:=by simpa using h
   rw[if_neg ztw]
   have ge:=zcb h1
   obtain⟨c,hc⟩:∃c,b=c+2^p:=⟨b-2^p,by omega⟩
   have h0:c.testBit p=false:=by
    rw[hc,vA] at h1
    simpa using h1
   have e:b-2^p=c:=by omega
   rw[e,hc]
   by_cases hj:j=p
   ·subst hj;rw[if_pos rfl,h0]
   ·rw[if_neg hj]
    rcases Nat.lt_or_gt_of_ne hj with q | q
    ·exact(Qd q).symm
    ·exact(zca q h0).symm
theorem zT {b p n:Nat}{v:Bool}(hb:b<2^n)(hp:p<n):zM b p v<2^n:=by
 refine Nat.lt_pow_two_of_testBit _ fun i hi=>?_
 rw[zQ,if_neg (by omega)]
 exact Nat.testBit_lt_two_pow (ztB hb (ztY (by decide) hi))
def zV (n:Nat)(N:Nat)(f:Nat->Bool):Prop:=∀b,N.testBit b=(decide (b<2^n)&&f b)
theorem Ux (n:Nat):zV n (2^2^n-1) (fun _=>true):=fun b=>by
 rw[Nat.testBit_two_pow_sub_one,Bool.and_true]
theorem ZC (n:Nat):zV n 0 (fun _=>false):=fun b=>by simp
theorem Uy {n N M:Nat}{f g:Nat->Bool}(h:zV n N f)(k:zV n M g):zV n (N ^^^ M) (fun b=>f b != g b):=fun b=>by
 rw[Nat.testBit_xor,h b,k b]
 show _=(decide (b<2^n)&&(f b != g b))
 cases decide (b<2^n)<;>cases f b<;>cases g b<;>rfl
theorem tY {n N M:Nat}{f g:Nat->Bool}(h:zV n N f)(k:zV n M g):zV n (N&&&M) (fun b=>f b&&g b):=fun b=>by
 rw[Nat.testBit_and,h b,k b]
 show _=(decide (b<2^n)&&(f b&&g b))
 cases decide (b<2^n)<;>cases f b<;>cases g b<;>rfl
theorem SJ {n N M:Nat}{f g:Nat->Bool}(h:zV n N f)(k:zV n M g):zV n (N|||M) (fun b=>f b||g b):=fun b=>by
 rw[Nat.testBit_or,h b,k b]
 show _=(decide (b<2^n)&&(f b||g b))
 cases decide (b<2^n)<;>cases f b<;>cases g b<;>rfl
theorem yI {n N:Nat}{f g:Nat->Bool}(h:zV n N f)(e:∀b,b<2^n->f b=g b):zV n N g:=fun b=>by
 rw[h b]
 by_cases hb:b<2^n
 ·rw[e b hb]
 ·rw[decide_eq_false hb];rfl
theorem zi6 {n N:Nat}{f:Nat->Bool}(h:zV n N f):N<2^2^n:=Nat.lt_pow_two_of_testBit _ fun i hi=>by
 rw[h i,decide_eq_false (by omega)];rfl
theorem zhP (p:Nat):zV (p+1) ((2^2^p-1)*2^2^p) (fun b=>b.testBit p):=fun b=>by
 rw[Nat.testBit_mul_two_pow,Nat.testBit_two_pow_sub_one]
 show _=(decide (b<2^(p+1))&&b.testBit p)
 have hp:2^(p+1)=2^p+2^p:=by rw[Nat.pow_succ];omega
 by_cases h1:2^p<=b
 ·by_cases h2:b<2^(p+1)
  ·have e:b.testBit p=true:=by
    obtain⟨c,rfl⟩:∃c,b=c+2^p:=⟨b-2^p,by omega⟩
    rw[vA,Nat.testBit_lt_two_pow (by omega)]
    rfl
   rw[e]
   simp[h1,h2]
   omega
  ·simp[h2]
   intro _
   omega
 ·have e:b.testBit p=false:=Nat.testBit_lt_two_pow (by omega)
  rw[e]
  simp[h1]
theorem zfO {p m N:Nat}(hp:p<m)(h:zV m N (fun b=>b.testBit p)):zV (m+1) (N|||N*2^2^m) (fun b=>b.testBit p):=fun b=>by
 rw[Nat.testBit_or,Nat.testBit_mul_two_pow,h b,h (b-2^m)]
 show(_||(_&&(_&&(b-2^m).testBit p)))=(decide (b<2^(m+1))&&b.testBit p)
 have hm:2^(m+1)=2^m+2^m:=by rw[Nat.pow_succ];omega
 by_cases h1:b<2^m
 ·have h2:b<2^(m+1):=by omega
  have h3:¬ 2^m<=b:=by omega
  simp[h1,h2,h3]
 ·have h3:2^m<=b:=by omega
  have e:(b-2^m).testBit p=b.testBit p:=by
   obtain⟨c,rfl⟩:∃c,b=c+2^m:=⟨b-2^m,by omega⟩
   rw[Qd hp,Nat.add_sub_cancel]
  rw[e]
  by_cases h2:b<2^(m+1)
  ·have h4:b-2^m<2^m:=by omega
   simp[h1,h2,h3,h4]
  ·have h4:¬b-2^m<2^m:=by omega
   simp[h1,h2,h3,h4]
theorem zi7 {n p N R:Nat}{f:Nat->Bool}(hp:p<n)(h:zV n N f)(r:zV n R (fun b=>b.testBit p)) :
  zV n ((N&&&R) / 2^2^p|||(N ^^^ (N&&&R))*2^2^p) (fun b=>f (zM b p (!b.testBit p))):=fun b=>by
 have o:=tY h r
 have z:=Uy h o
 have pp:=Nat.two_pow_pos p
 rw[Nat.testBit_or,Nat.testBit_mul_two_pow,Nat.testBit_div_two_pow,o,z]
 dsimp only
 by_cases hb:b<2^n
 ·cases hbit:b.testBit p with
  | false =>
   have e:zM b p (!false)=b+2^p:=by
    unfold zM
    rw[hbit,if_neg (by decide),if_pos (by decide)]
   have lt:b+2^p<2^n:=by rw[<-e];exact zT hb hp
   rw[e,vA,hbit]
   by_cases h1:2^p<=b
   ·have e2:(b-2^p).testBit p=true:=by
     obtain⟨c,rfl⟩:∃c,b=c+2^p:=⟨b-2^p,by omega⟩
     rw[vA] at hbit
     rw[Nat.add_sub_cancel]
     simpa using hbit
    rw[e2]
    have h4:b-2^p<2^n:=by omega
    simp[hb,lt,h1,h4]
   ·simp[hb,lt,h1]
  | true =>
   have ge:=zcb hbit
   have e:zM b p (!true)=b-2^p:=by
    unfold zM
    rw[hbit,if_neg (by decide),if_neg (by decide)]
   have e2:(b-2^p).testBit p=false:=by
    obtain⟨c,rfl⟩:∃c,b=c+2^p:=⟨b-2^p,by omega⟩
    rw[vA] at hbit
    rw[Nat.add_sub_cancel]
    simpa using hbit
   rw[e,vA,hbit,e2]
   have h4:b-2^p<2^n:=by omega
   simp[hb,ge,h4]
 ·have h3:¬b+2^p<2^n:=by omega
  have h5:(decide (2^p<=b)&&(decide (b-2^p<2^n)&&(f (b-2^p) != (f (b-2^p)&&(b-2^p).testBit p))))=false:=by
   by_cases h1:2^p<=b
   ·by_cases h4:b-2^p<2^n
    ·
     have e:(b-2^p).testBit p=true:=by
      cases q:(b-2^p).testBit p with
      | true=>rfl
      | false =>
       exfalso
       have l:=zT (v:=true) h4 hp
       unfold zM at l
       rw[q,if_neg (by decide),if_pos rfl] at l
       omega
     rw[e]
     cases f (b-2^p)<;>simp
    ·simp[h4]
   ·simp[h1]
  rw[h5]
  simp[hb,h3]
theorem QG (a:Nat):a%2=(a.testBit 0).toNat:=by
 rw[Nat.testBit_zero]
 have:=Nat.mod_two_eq_zero_or_one a
 rcases this with h | h<;>rw[h]<;>rfl
theorem zgT:∀(n a b:Nat),a<=n->(a ^^^ b)+2*(a&&&b)=a+b
 | 0,a,b,h=>by
  have:a=0:=by omega
  subst this;simp
 | n+1,a,b,h=>by
  by_cases h0:a=0
  ·subst h0;simp
  ·have ih:=zgT n (a / 2) (b / 2) (by omega)
   have e1:(a ^^^ b) / 2=a / 2 ^^^ b / 2:=Nat.xor_div_two
   have e2:(a&&&b) / 2=a / 2&&&b / 2:=Nat.and_div_two
   have d1:=Nat.div_add_mod (a ^^^ b) 2
   have d2:=Nat.div_add_mod (a&&&b) 2
   have d3:=Nat.div_add_mod a 2
   have d4:=Nat.div_add_mod b 2
   rw[e1] at d1
   rw[e2] at d2
   cases ha:a.testBit 0<;>cases hb:b.testBit 0
   ·have m1:(a ^^^ b)%2=0:=by rw[QG,Nat.testBit_xor,ha,hb];rfl
    have m2:(a&&&b)%2=0:=by rw[QG,Nat.testBit_and,ha,hb];rfl
    have m3:a%2=0:=by rw[QG,ha];rfl
    have m4:b%2=0:=by rw[QG,hb];rfl
    omega
   ·have m1:(a ^^^ b)%2=1:=by rw[QG,Nat.testBit_xor,ha,hb];rfl
    have m2:(a&&&b)%2=0:=by rw[QG,Nat.testBit_and,ha,hb];rfl
    have m3:a%2=0:=by rw[QG,ha];rfl
    have m4:b%2=1:=by rw[QG,hb];rfl
    omega
   ·have m1:(a ^^^ b)%2=1:=by rw[QG,Nat.testBit_xor,ha,hb];rfl
    have m2:(a&&&b)%2=0:=by rw[QG,Nat.testBit_and,ha,hb];rfl
    have m3:a%2=1:=by rw[QG,ha];rfl
    have m4:b%2=0:=by rw[QG,hb];rfl
    omega
   ·have m1:(a ^^^ b)%2=0:=by rw[QG,Nat.testBit_xor,ha,hb];rfl
    have m2:(a&&&b)%2=1:=by rw[QG,Nat.testBit_and,ha,hb];rfl
    have m3:a%2=1:=by rw[QG,ha];rfl
    have m4:b%2=1:=by rw[QG,hb];rfl
    omega
theorem zfP:∀(n a b:Nat),a<=n->(a|||b)+(a&&&b)=a+b
 | 0,a,b,h=>by
  have:a=0:=by omega
  subst this;simp
 | n+1,a,b,h=>by
  by_cases h0:a=0
  ·subst h0;simp
  ·have ih:=zfP n (a / 2) (b / 2) (by omega)
   have e1:(a|||b) / 2=a / 2|||b / 2:=Nat.or_div_two
   have e2:(a&&&b) / 2=a / 2&&&b / 2:=Nat.and_div_two
   have d1:=Nat.div_add_mod (a|||b) 2
   have d2:=Nat.div_add_mod (a&&&b) 2
   have d3:=Nat.div_add_mod a 2
   have d4:=Nat.div_add_mod b 2
   rw[e1] at d1
   rw[e2] at d2
   cases ha:a.testBit 0<;>cases hb:b.testBit 0
   ·have m1:(a|||b)%2=0:=by rw[QG,Nat.testBit_or,ha,hb];rfl
    have m2:(a&&&b)%2=0:=by rw[QG,Nat.testBit_and,ha,hb];rfl
    have m3:a%2=0:=by rw[QG,ha];rfl
    have m4:b%2=0:=by rw[QG,hb];rfl
    omega
   ·have m1:(a|||b)%2=1:=by rw[QG,Nat.testBit_or,ha,hb];rfl
    have m2:(a&&&b)%2=0:=by rw[QG,Nat.testBit_and,ha,hb];rfl
    have m3:a%2=0:=by rw[QG,ha];rfl
    have m4:b%2=1:=by rw[QG,hb];rfl
    omega
   ·have m1:(a|||b)%2=1:=by rw[QG,Nat.testBit_or,ha,hb];rfl
    have m2:(a&&&b)%2=0:=by rw[QG,Nat.testBit_and,ha,hb];rfl
    have m3:a%2=1:=by rw[QG,ha];rfl
    have m4:b%2=0:=by rw[QG,hb];rfl
    omega
   ·have m1:(a|||b)%2=1:=by rw[QG,Nat.testBit_or,ha,hb];rfl
    have m2:(a&&&b)%2=1:=by rw[QG,Nat.testBit_and,ha,hb];rfl
    have m3:a%2=1:=by rw[QG,ha];rfl
    have m4:b%2=1:=by rw[QG,hb];rfl
    omega
theorem zmJ (a b:Nat):Builtin.bitAnd (a:Int) (b:Int)=((a&&&b:Nat):Int):=by
 unfold Builtin.bitAnd
 rw[decide_eq_true (Int.natCast_nonneg a),decide_eq_true (Int.natCast_nonneg b)]
 simp
theorem orI (a b:Nat):Builtin.bitOr (a:Int) (b:Int)=((a|||b:Nat):Int):=by
 rw[PyProof.Rows.bitOr_and,zmJ]
 have:=zfP a a b (ztI _)
 omega
theorem zpy (a b:Nat):Builtin.bitXor (a:Int) (b:Int)=((a ^^^ b:Nat):Int):=by
 rw[PyProof.Rows.bitXor_and,zmJ]
 have:=zgT a a b (ztI _)
 omega
theorem znL (n:Nat):(2:Int)^n=((2^n:Nat):Int):=by simp
end yU
namespace L2
open PySem PySem.Spec PyProof.Rows yU
section
variable {X:Cx}
def znM:R2:=fun x y H Q=>∃a n:Nat,x=.int a/\y=.int n/\a<2^10000/\n<=10000/\Q (.int (a*2^n:Nat)) H
theorem ZD:Uq X (binaryOp .LShift) znM:=by
 intro pins s σ H x y v u Q I rx ry h
 obtain⟨a,n,rfl,rfl,ha,hn,q⟩:=h
 obtain⟨t,rfl⟩:=rx
 obtain⟨t',rfl⟩:=ry
 have hb:Builtin.Int.intBits (a:Int)<=10000:=intBits_le (by simpa using ha)
 refine lshift_int (Int.natCast_nonneg n) ?_ ?_
 ·have e:(2:Int)^27=134217728:=by decide
  rw[e];omega
 ·rw[zt5]
  have e:(a:Int)*2^n=((a*2^n:Nat):Int):=by rw[znL,Int.natCast_mul]
  rw[e]
  exact⟨.int (a*2^n:Nat),H,I.tok _,⟨_,rfl⟩,q⟩
def znN:R2:=fun x y H Q=>∃a n:Nat,x=.int a/\y=.int n/\Q (.int (a / 2^n:Nat)) H
theorem zgU:Uq X (binaryOp .RShift) znN:=by
 intro pins s σ H x y v u Q I rx ry h
 obtain⟨a,n,rfl,rfl,q⟩:=h
 refine zmu pins s σ H _ _ v u Q I rx ry ⟨_,_,rfl,rfl,Int.natCast_nonneg n,?_⟩
 show Q (.int ((a:Int) / 2^(n:Int).toNat)) H
 rw[zt5,znL,<-Int.natCast_ediv]
 exact q
def rN2 (g:Nat->Nat->Nat):R2:=fun x y H Q=>∃a b:Nat,x=.int a/\y=.int b/\Q (.int (g a b:Nat)) H
theorem tZ:Uq X (binaryOp .BitAnd) (rN2 (·&&&·)):=by
 intro pins s σ H x y v u Q I rx ry h
 obtain⟨a,b,rfl,rfl,q⟩:=h
 exact zmv pins s σ H _ _ v u Q I rx ry ⟨_,_,rfl,rfl,by show Q (.int (Builtin.bitAnd a b)) H;rw[zmJ];exact q⟩
theorem Vr:Uq X (binaryOp .BitOr) (rN2 (·|||·)):=by
 intro pins s σ H x y v u Q I rx ry h
 obtain⟨a,b,rfl,rfl,q⟩:=h
 exact znv pins s σ H _ _ v u Q I rx ry ⟨_,_,rfl,rfl,by show Q (.int (Builtin.bitOr a b)) H;rw[orI];exact q⟩
theorem Qe:Uq X (binaryOp .BitXor) (rN2 (· ^^^ ·)):=by
 intro pins s σ H x y v u Q I rx ry h
 obtain⟨a,b,rfl,rfl,q⟩:=h
 exact zmw pins s σ H _ _ v u Q I rx ry ⟨_,_,rfl,rfl,by show Q (.int (Builtin.bitXor a b)) H;rw[zpy];exact q⟩
end
end L2
namespace L2
open PySem PySem.Spec PyProof.Rows
def strsOf:List Expr->Option (List Str)
 | []=>some []
 | .Constant (.str x) _ _::r=>(strsOf r).map (x::·)
 | _=>none
theorem zei {e:Expr}{r:List Expr}{xs:List Str}(h:strsOf (e::r)=some xs):∃x j p ys,e=.Constant (.str x) j p/\strsOf r=some ys/\xs=x::ys:=by
 cases e with
 | Constant c j p =>
  cases c with
  | str x =>
   have h':(strsOf r).map (x::·)=some xs:=h
   cases hr:strsOf r with
   | none=>rw[hr] at h';cases h'
   | some ys =>
    rw[hr] at h'
    exact⟨x,j,p,ys,rfl,rfl,(ztX h').symm⟩
  | _=>cases h
 | _=>cases h
def znO (xs:List Str):TA:=fun _ H Q=>Q (xs.map V.str) H
def zlP (xs:List Str):TE:=fun _ H Q=>xs.length<=sizeLine/\∀p,H p=none->Q (.ref p) (upd H p (.lst (xs.map V.str)))
section
variable {X:Cx}
theorem zkO {es:List Expr}:∀{xs:List Str},strsOf es=some xs->PA X es (znO xs):=by
 induction es with
 | nil =>
  intro xs h
  cases h
  exact fun pos pins s σ H Q I q=>zc pos pins s σ H Q I q
 | cons e r ih =>
  intro xs h
  obtain⟨x,j,p,ys,rfl,hr,rfl⟩:=zei h
  exact fun pos pins s σ H Q I q=>za (zZ (x:=x) (j:=j) (pos:=p)) (ih hr) rfl pos pins s σ H Q I q
theorem zkP {es:List Expr}{pos:Pos}{xs:List Str}(h:strsOf es=some xs):PE X (.List es pos) (zlP xs):=by
 intro pins s σ H Q I q
 refine yK (zkO h) pins s σ H Q I ⟨?_,q.2⟩
 rw[zts];exact q.1
def zc1:Stmt->Option (Str×List Str)
 | .Assign [.Name x _] (.List es _) _=>(strsOf es).map (x,·)
 | _=>none
theorem zc2 {st:Stmt}{x:Str}{xs:List Str}(h:zc1 st=some (x,xs)):∃p es q r,st=.Assign [.Name x p] (.List es q) r/\strsOf es=some xs:=by
 unfold zc1 at h
 split at h
 ·rename_i y p es q r
  cases hs:strsOf es with
  | none=>rw[hs] at h;cases h
  | some ys =>
   rw[hs] at h
   cases h
   exact⟨_,_,_,_,rfl,hs⟩
 ·cases h
theorem zkQ {i:Nat}{x:Str}{xs:List Str}{st:Stmt}(h:zc1 st=some (x,xs))(hN:X.N.Nodup)(hi:X.N[i]?=some x)(hx:Loc X.env.scope x)(hf:X.fn x=true\/X.env.scope.names.lookup x=some .local):PS X st (zko (zlP xs) (Yg i)):=by
 obtain⟨p,es,q,r,rfl,hs⟩:=zc2 h
 exact Lp hN hi hx (zkP hs) rfl hf
end
end L2
set_option exponentiation.threshold 20000
namespace yU
open PySem L2
section
variable {K:Frag}
theorem zcc {a k:Nat}(h:a<2^k)(hk:k<=10000):a<2^10000:=ztB h (ztY (by decide) hk)
theorem zhQ {n:Nat}(hn:n<=8):2^n<=256:=ztY (n:=2) (by decide) hn
inductive uL (vs:List V)(H:Hp)(Q:VK)(E9:XK):Prop
 | mk (n:Nat) (_:vs=[.int n]) (_:n<=8) (_:Q (.int ((2^2^n-1:Nat):Int)) H):uL vs H Q E9
inductive ux (vs:List V)(H:Hp)(Q:VK)(E9:XK):Prop
 | mk (p n:Nat) (_:vs=[.int p,.int n]) (_:p<n) (_:n<=8) (_:∀R:Nat,zV n R (fun b=>b.testBit p)->Q (.int R) H):ux vs H Q E9
inductive XM (vs:List V)(H:Hp)(Q:VK)(E9:XK):Prop
 | mk (N p n:Nat) (f:Nat->Bool) (_:vs=[.int N,.int p,.int n]) (_:p<n) (_:n<=8) (_:zV n N f) (_:∀R:Nat,zV n R (fun b=>f (zM b p (!b.testBit p)))->Q (.int R) H):XM vs H Q E9
def zu:List Bool->Nat
 | []=>0
 | b::r=>b.toNat+2*zu r
theorem N8:∀(r:List Bool) (b:Bool),zu (r++[b])=zu r+b.toNat*2^r.length
 | [],b=>by simp[zu]
 | c::r,b=>by
  show c.toNat+2*zu (r++[b])=c.toNat+2*zu r+b.toNat*2^(r.length+1)
  rw[N8 r b,Nat.pow_succ]
  have:b.toNat*(2^r.length*2)=2*(b.toNat*2^r.length):=by rw[<-Nat.mul_assoc];omega
  omega
theorem Yl:∀r:List Bool,zu r<2^r.length
 | []=>by decide
 | b::r=>by
  have:=Yl r
  show b.toNat+2*zu r<2^(r.length+1)
  rw[Nat.pow_succ]
  cases b<;>simp<;>omega
theorem xQ:∀(r:List Bool) (i:Nat),(zu r).testBit i=(r[i]?).getD false
 | [],i=>by simp[zu]
 | b::r,0=>by
  show(b.toNat+2*zu r).testBit 0=b
  rw[Nat.testBit_zero]
  cases b<;>simp<;>omega
 | b::r,i+1=>by
  show(b.toNat+2*zu r).testBit (i+1)=(r[i]?).getD false
  rw[Nat.testBit_succ,<-xQ r i]
  have:(b.toNat+2*zu r) / 2=zu r:=by cases b<;>simp<;>omega
  rw[this]
theorem zi8 {x y n:Nat}(h:x<2^n):x|||y*2^n=x+y*2^n:=by
 have e:=zfP x x (y*2^n) (ztI _)
 have z:x&&&y*2^n=0:=by
  refine Nat.eq_of_testBit_eq fun i=>?_
  rw[Nat.testBit_and,Nat.testBit_mul_two_pow,Nat.zero_testBit]
  by_cases hi:n<=i
  ·rw[Nat.testBit_lt_two_pow (ztB h (ztY (by decide) hi))]
   rfl
  ·simp[hi]
 omega
abbrev zX (r:List Bool):List V:=r.map fun b=>V.int (b.toNat:Nat)
inductive Qg (K:Frag)(vs:List V)(H:Hp)(Q:VK)(E9:XK):Prop
 | mk (N n:Nat) (f:Nat->Bool) (l:Addr) (r:List Bool) (_:vs=[.int N,.ref l]) (_:zV n N f) (_:zP K H l (zX r)) (_:r.length=n) (_:n<=8) (_:∀H',Same H H'->Q (.int ((f (zu r)).toNat:Nat)) H'):Qg K vs H Q E9
theorem SM {H:Hp}{p:Addr}(h:H p=none)(o:HO):Same H (upd H p o):=fun b u q=>by rw[zB (zy q h)];exact q
inductive Ma (K:Frag)(vs:List V)(H:Hp)(Q:VK)(E9:XK):Prop
 | mk (l:Addr) (ns:List Int) (i:Int) (_:vs=[.ref l,.int i]) (_:zP K H l (ns.map V.int)) (_:0<=i) (_:∀v:Int,Q (.int v) H):Ma K vs H Q E9
inductive J6 (vs:List V)(H:Hp)(Q:VK)(E9:XK):Prop
 | mk (i:Int) (_:vs=[.int i]) (_:Q (.bl true) H):J6 vs H Q E9
inductive zav (vs:List V)(H:Hp)(Q:VK)(E9:XK):Prop
 | mk (c:Int) (k:Nat) (b:Int) (_:vs=[.int c,.int k,.int b]) (_:k<=40) (_:0<b) (_:b<1073741824) (_:∀r:Int,0<=r->r<b->Q (.int r) H):zav vs H Q E9
def ud:List Str:=["a", "b", "c", "d", "e", "f", "g", "h"]
structure Mf (os:List Str):Prop where
 nd:os.Nodup
 mem:∀x∈os,x∈ud
 pos:0<os.length
theorem zaw {α:Type}[DecidableEq α]:∀{xs ys:List α},xs.Nodup->(∀x∈xs,x∈ys)->xs.length<=ys.length
 | [],_,_,_=>ztP _
 | x::xs,ys,nd,h=>by
  obtain⟨h1,h2⟩:=List.nodup_cons.mp nd
  have hx:=h x ztM
  have ih:=zaw (xs:=xs) (ys:=ys.erase x) h2 fun y hy=>(List.mem_erase_of_ne (fun e:y=x=>h1 (by rw[<-e];exact hy))).mpr (h y (ztD _ hy))
  rw[List.length_erase_of_mem hx] at ih
  have:=List.length_pos_of_mem hx
  rw[ztE]
  omega
theorem zkR {i:Nat}(h:i<8):∃c,atI (Str.ofString "abcdefgh").cps.toList (i:Int)=some c/\ud[i]?=some ⟨#[c]⟩:=by
 match i,h with
 | 0,_=>exact⟨97,by decide +kernel,by decide +kernel⟩
 | 1,_=>exact⟨98,by decide +kernel,by decide +kernel⟩
 | 2,_=>exact⟨99,by decide +kernel,by decide +kernel⟩
 | 3,_=>exact⟨100,by decide +kernel,by decide +kernel⟩
 | 4,_=>exact⟨101,by decide +kernel,by decide +kernel⟩
 | 5,_=>exact⟨102,by decide +kernel,by decide +kernel⟩
 | 6,_=>exact⟨103,by decide +kernel,by decide +kernel⟩
 | 7,_=>exact⟨104,by decide +kernel,by decide +kernel⟩
theorem zej:ud.Nodup:=by decide +kernel
theorem zi9 {i:Nat}{y:Str}(h:ud[i]?=some y):y∉ud.take i:=fun hm=>by
 obtain⟨j,hj⟩:=List.getElem?_of_mem hm
 have hlt:j<i:=by
  have:=(ztv.mp hj).1
  rw[ztQ] at this
  omega
 rw[List.getElem?_take_of_lt hlt] at hj
 have h1:=(ztv.mp hj)
 have h2:=(ztv.mp h)
 obtain⟨l1,e1⟩:=h1
 obtain⟨l2,e2⟩:=h2
 have:=(List.getElem_inj zej).mp (e1.trans e2.symm)
 omega
theorem Mf.le {os:List Str}(h:Mf os):os.length<=8:=zaw h.nd h.mem
inductive zc3 (vs:List V)(H:Hp)(Q:VK)(E9:XK):Prop
 | mk (c:Int) (n:Nat) (_:vs=[.int c,.int n]) (_:0<n) (_:n<=8) (_:∀(l:Addr) (H':Hp) (os:List Str),Same H H'->H' l=some (.lst (os.map V.str))->Mf os->os.length<=n->Q (.ref l) H'):zc3 vs H Q E9
def T8 (H:Hp):Sn->Addr->Prop
 | .c0 y,p=>H p=some (.tup [.str (Sn.word (.c0 y))])
 | .mk x,p=>H p=some (.tup [.str "mark", .str x])
 | .nt s,p=>∃q,H p=some (.tup [.str "not", .ref q])/\T8 H s q
 | .b2 o s t,p=>∃q r,H p=some (.tup [.str (w2 o),.ref q,.ref r])/\T8 H s q/\T8 H t r
 | .q1 o x s,p=>∃q,H p=some (.tup [.str (if o then "some" else "each"),.str x,.ref q])/\T8 H s q
def yN (H H':Hp):Prop:=∀b xs,H b=some (.tup xs)->H' b=some (.tup xs)
theorem yN.trans {H H1 H2:Hp}(a:yN H H1)(b:yN H1 H2):yN H H2:=fun c o h=>b c o (a c o h)
theorem yN.of {H H':Hp}(g:Same H H'):yN H H':=fun b xs h=>g b _ h
theorem yN.new {H:Hp}{p:Addr}(h:H p=none)(o:HO):yN H (upd H p o):=fun b u q=>by rw[zB (zy q h)];exact q
theorem yN.lst {H:Hp}{p:Addr}{xs:List V}(h:H p=some (.lst xs))(o:HO):yN H (upd H p o):=fun b u q=>by rw[zB (Sd q h (fun z=>nomatch z))];exact q
theorem T8.mono {H H':Hp}(g:yN H H'):∀{s:Sn} {p:Addr},T8 H s p->T8 H' s p
 | .c0 y,p,h=>g _ _ h
 | .mk x,p,h=>g _ _ h
 | .nt s,p,⟨q,h,k⟩=>⟨q,g _ _ h,k.mono g⟩
 | .b2 o s t,p,⟨q,r,h,k,l⟩=>⟨q,r,g _ _ h,k.mono g,l.mono g⟩
 | .q1 o x s,p,⟨q,h,k⟩=>⟨q,g _ _ h,k.mono g⟩
theorem zc4 (o:Bool)(x:Str)(s:Sn):Sn.word (.q1 o x s)=if o then Str.ofString "some" else Str.ofString "each" := by cases o<;>rfl
theorem T8.shape {H:Hp}:∀{s:Sn} {p:Addr},T8 H s p->∃qs:List Addr,H p=some (.tup (.str s.word::(s.letters.map V.str++qs.map V.ref)))/\Paired (T8 H) s.parts qs
 | .c0 y,p,h=>⟨[],h,.nil⟩
 | .mk x,p,h=>⟨[],h,.nil⟩
 | .nt s,p,⟨q,h,k⟩=>⟨[q],h,.cons k .nil⟩
 | .b2 o s t,p,⟨q,r,h,k,l⟩=>⟨[q,r],h,.cons k (.cons l .nil)⟩
 | .q1 o x s,p,⟨q,h,k⟩=>⟨[q],by rw[zc4];exact h,.cons k .nil⟩
theorem zc5 {α:Type}{xs:List α}{i:Int}(h0:-(xs.length:Int)<=i)(h1:i<xs.length):∃(j:Nat) (v:α),atI xs i=some v/\xs[j]?=some v:=by
 by_cases h:0<=i
 ·have hj:i.toNat<xs.length:=by omega
  have q:=vG (xs:=xs) (j:=i.toNat) (ztt hj)
  have e:((i.toNat:Nat):Int)=i:=by omega
  rw[e] at q
  exact⟨_,_,q,ztt hj⟩
 ·have hj:(i+xs.length).toNat<xs.length:=by omega
  refine⟨_,_,?_,ztt hj⟩
  unfold atI ixN
  rw[if_neg h,if_pos h0]
  show xs[(i+xs.length).toNat]?=_
  exact ztt hj
def Pu:List Str:=["mark", "mark", "not", "and", "or", "either", "if", "and", "or", "some", "each", "yes", "no", "mark"]
structure Made (H0 H:Hp)(os:List Str)(m kd:Addr)(ps:List Addr)(d:Nat):Prop where
 old:Same H0 H
 mad:H m=some (.lst (ps.map V.ref))
 kin:H kd=some (.lst (Pu.map V.str))
 ne:ps≠[]
 all:∀p∈ps,∃s,T8 H s p/\s.QF os/\s.depth<=d
theorem Made.push {H0 H:Hp}{os:List Str}{m kd p:Addr}{ps:List Addr}{d:Nat}{xs:List V}(M:Made H0 H os m kd ps d)(fm:H0 m=none)(hp:H p=none){s:Sn}(hs:T8 (upd H p (.tup xs)) s p)(ho:s.QF os)(hd:s.depth<=d+1)(hk:m≠kd) :
  Made H0 (upd (upd H p (.tup xs)) m (.lst ((ps++[p]).map V.ref))) os m kd (ps++[p]) (d+1):=by
 have hm:m≠p:=zy M.mad hp
 have hkp:kd≠p:=zy M.kin hp
 have mad':(upd H p (.tup xs)) m=some (.lst (ps.map V.ref)):=by rw[zB hm];exact M.mad
 have t1:yN H (upd H p (.tup xs)):=yN.new hp _
 have t2:yN (upd H p (.tup xs)) (upd (upd H p (.tup xs)) m (.lst ((ps++[p]).map V.ref))):=yN.lst mad' _
 refine⟨fun b o h=>?_,zf,?_,by simp,fun q hq=>?_⟩
 ·have h1:=M.old b o h
  rw[zB (zy h fm),zB (zy h1 hp)]
  exact h1
 ·rw[zB (Ne.symm hk),zB hkp];exact M.kin
 ·rcases List.mem_append.mp hq with z | z
  ·obtain⟨s',q1,q2,q3⟩:=M.all q z
   exact⟨s',(q1.mono t1).mono t2,q2,by omega⟩
  ·have z':q=p:=by simpa using z
   subst z'
   exact⟨s,hs.mono t2,ho,hd⟩
theorem K7 {os:List Str}(h0:0<os.length)(r:Int):∃x,x∈os/\atI (os.map V.str) (r%((os.map V.str).length:Nat))=some (.str x):=by
 have e:(os.map V.str).length=os.length:=zts _
 have m0:0<=r%((os.map V.str).length:Nat):=zub _ (by omega)
 have m1:r%((os.map V.str).length:Nat)<((os.map V.str).length:Nat):=zt7 _ (by omega)
 obtain⟨j,v,q1,q2⟩:=zc5 (xs:=os.map V.str) (i:=r%((os.map V.str).length:Nat)) (by omega) m1
 rw[ztu] at q2
 cases hx:os[j]? with
 | none=>rw[hx] at q2;cases q2
 | some x =>
  rw[hx] at q2
  cases q2
  exact⟨x,ztx hx,q1⟩
theorem LK {ps:List Addr}{i:Int}(h0:-(ps.length:Int)<=i)(h1:i<ps.length):∃p,p∈ps/\atI (ps.map V.ref) i=some (.ref p):=by
 have e:(ps.map V.ref).length=ps.length:=zts _
 obtain⟨j,v,q1,q2⟩:=zc5 (xs:=ps.map V.ref) (i:=i) (by omega) (by omega)
 rw[ztu] at q2
 cases hx:ps[j]? with
 | none=>rw[hx] at q2;cases q2
 | some x =>
  rw[hx] at q2
  cases q2
  exact⟨x,ztx hx,q1⟩
end
end yU
namespace L2
open PySem
section
variable {α β:Type}{R S:α->β->Prop}
theorem Vs:∀{xs ys:List α} {us ws:List β},Paired R xs us->Paired R ys ws->Paired R (xs++ys) (us++ws)
 | _,_,_,_,.nil,s=>s
 | _,_,_,_,.cons r t,s=>.cons r (Vs t s)
theorem wJ (f:∀a b,R a b->S a b):∀{xs:List α} {us:List β},Paired R xs us->Paired S xs us
 | _,_,.nil=>.nil
 | _,_,.cons r t=>.cons (f _ _ r) (wJ f t)
theorem xK:∀{xs:List α} {us:List β},Paired R xs us->xs.length=us.length
 | _,_,.nil=>rfl
 | _,_,.cons _ t=>by rw[ztE,ztE,xK t]
theorem Xr:∀{xs:List α} {us:List β} {i:Nat} {x:α},Paired R xs us->xs[i]?=some x->∃u,us[i]?=some u/\R x u
 | _,_,_,_,.nil,e=>by simp at e
 | _,_,0,_,.cons r _,e=>by simp at e;subst e;exact⟨_,rfl,r⟩
 | _,_,i+1,x,.cons _ t,e=>by
  obtain⟨u,h1,h2⟩:=Xr (i:=i) (x:=x) t (by simpa using e)
  exact⟨u,by simpa using h1,h2⟩
theorem K8:∀{xs:List α} {us:List β} {i:Nat} {u:β},Paired R xs us->us[i]?=some u->∃x,xs[i]?=some x/\R x u
 | _,_,_,_,.nil,e=>by simp at e
 | _,_,0,_,.cons r _,e=>by simp at e;subst e;exact⟨_,rfl,r⟩
 | _,_,i+1,x,.cons _ t,e=>by
  obtain⟨u,h1,h2⟩:=K8 (i:=i) (u:=x) t (by simpa using e)
  exact⟨u,by simpa using h1,h2⟩
theorem zY {α:Type}{xs:List α}{i:Nat}{x:α}(h:xs[i]?=some x):xs.take (i+1)=xs.take i++[x]:=by
 rw[List.take_succ,h]
 rfl
theorem Same.znP {K:Frag}{H H':Hp}{a:Addr}{xs:List V}(e:Same H H')(h:wG K H a xs):wG K H' a xs:=by
 rcases h with (h | ⟨o,h⟩) | h
 ·exact .inl (.inl (e _ _ h))
 ·exact .inl (.inr ⟨o,e _ _ h⟩)
 ·exact .inr h
theorem Same.new {H:Hp}{p:Addr}(h:H p=none)(o:HO):Same H (upd H p o):=fun b u q=>by rw[zB (zy q h)];exact q
theorem Same.over {H H':Hp}{p:Addr}(g:Same H H')(h:H p=none)(o:HO):Same H (upd H' p o):=fun b u q=>by rw[zB (zy q h)];exact g b u q
theorem at0 {α:Type}{x:α}{xs:List α}:atI (x::xs) 0=some x:=vG (j:=0) rfl
theorem at1 {α:Type}{x y:α}{xs:List α}:atI (x::y::xs) 1=some y:=vG (j:=1) rfl
theorem at2 {α:Type}{x y z:α}{xs:List α}:atI (x::y::z::xs) 2=some z:=vG (j:=2) rfl
end
section
variable {K:Frag}{a:Addr}{xs:List V}{σ:St}{js:List Nat}{te:TE}{H:Hp}{Qf:Addr->Hp->List V->Prop}
theorem zc6 (R:V->V->Prop)(hq:zP K H a xs)(hz:xs.length<=sizeLine)
  (hs:∀(i:Nat) x H',xs[i]?=some x->Same H H'->te (Zj σ js (some x)) H' fun v H3=>R x v/\Same H H3)
  (me:∀ σ H Q Q',(∀v H1,Q v H1->Q' v H1)->te σ H Q->te σ H Q')
  (hd:∀ys H' p,Paired R xs ys->Same H H'->H' p=none->Qf p H' ys) :
  ∃W:Nat->Nat->List V->Hp->Prop,(∃m,W 0 m [] H)/\∀i m ys H,W i m ys H ->
   ((KZ K a).stop i H/\∀p,H p=none->Qf p H ys) \/
   ((KZ K a).go i H/\ys.length<sizeLine/\∀x H',(KZ K a).R7 i H x H'->Sw (Zj σ js (some x)) H' fun b H2 =>
    if b=true then te (Zj σ js (some x)) H2 fun v H3=>∃m',m'<m/\W (i+1) m' (ys++[v]) H3 else ∃m',m'<m/\W (i+1) m' ys H2):=by
 refine zcX (fun i ys H'=>Same H H'/\Paired R (xs.take i) ys) ⟨Same.refl _,.nil⟩ hz ?_ ?_ (fun _ _ _ _ h q=>h _ _ q) me ?_
 ·rintro i ys H' hi ⟨g,r⟩
  have:=xK r
  rw[ztQ] at this
  exact⟨g.seq hq,by omega⟩
 ·rintro i x ys H' hx ⟨g,r⟩
  show te (Zj σ js (some x)) H' fun v H3=>Same H H3/\Paired R (xs.take (i+1)) (ys++[v])
  refine me _ _ _ _ (fun v H3 h3=>⟨h3.2,?_⟩) (hs i x H' hx g)
  rw[zY hx]
  exact Vs r (.cons h3.1 .nil)
 ·rintro ys H' p ⟨g,r⟩ hp
  rw[ztV] at r
  exact hd ys H' p r g hp
theorem zgV (R:V->V->Prop)(hq:wG K H a xs)(hz:xs.length<=sizeLine)
  (hs:∀(i:Nat) x H',xs[i]?=some x->Same H H'->te (Zj σ js (some x)) H' fun v H3=>R x v/\Same H H3)
  (me:∀ σ H Q Q',(∀v H1,Q v H1->Q' v H1)->te σ H Q->te σ H Q')
  (hd:∀ys H' p,Paired R xs ys->Same H H'->H' p=none->Qf p H' ys) :
  ∃W:Nat->Nat->List V->Hp->Prop,(∃m,W 0 m [] H)/\∀i m ys H,W i m ys H ->
   ((Itt K a).stop i H/\∀p,H p=none->Qf p H ys) \/
   ((Itt K a).go i H/\ys.length<sizeLine/\∀x H',(Itt K a).R7 i H x H'->Sw (Zj σ js (some x)) H' fun b H2 =>
    if b=true then te (Zj σ js (some x)) H2 fun v H3=>∃m',m'<m/\W (i+1) m' (ys++[v]) H3 else ∃m',m'<m/\W (i+1) m' ys H2):=by
 refine ziT (fun i ys H'=>Same H H'/\Paired R (xs.take i) ys) ⟨Same.refl _,.nil⟩ hz ?_ ?_ (fun _ _ _ _ h q=>h _ _ q) me ?_
 ·rintro i ys H' hi ⟨g,r⟩
  have:=xK r
  rw[ztQ] at this
  exact⟨g.znP hq,by omega⟩
 ·rintro i x ys H' hx ⟨g,r⟩
  show te (Zj σ js (some x)) H' fun v H3=>Same H H3/\Paired R (xs.take (i+1)) (ys++[v])
  refine me _ _ _ _ (fun v H3 h3=>⟨h3.2,?_⟩) (hs i x H' hx g)
  rw[zY hx]
  exact Vs r (.cons h3.1 .nil)
 ·rintro ys H' p ⟨g,r⟩ hp
  rw[ztV] at r
  exact hd ys H' p r g hp
theorem LQ {f:V->V}:∀{xs ys:List V},Paired (fun x v=>v=f x) xs ys->ys=xs.map f
 | _,_,.nil=>rfl
 | _,_,.cons r t=>by rw[ztR,r,LQ t]
end
section
variable {X:Cx}{K:Frag}{a:Expr}{ta:TE}
theorem zax (h:X.K=K):Uq X (compareOp .In) (rIn K false):=by subst h;exact R9
theorem zcd (h:X.K=K):Uq X (compareOp .NotIn) (rIn K true):=by subst h;exact Us
theorem zc7 (h:X.K=K):uW X (.builtin "isinstance") (fun xs H Q=>∃x T t b,xs=[x,.ty T]/\NZ K H x t/\PySem.W.kitOne K t (.type T)=some b/\Q (.bl b) H):=by subst h;exact vq
theorem zay (h:X.K=K):IxR X (zkx K):=by subst h;exact yQ
theorem zbz (h:X.K=K):uW X (.builtin "len") (fun xs H Q=>∃p ys,xs=[.ref p]/\(zP K H p ys\/wG K H p ys)/\Q (.int ys.length) H):=by subst h;exact zH
theorem zce (h:X.K=K)(ha:PE X a ta)(he:∀whole,isTrue a X.env whole=(do let v <-whole;standAt a.pos;holding [v] (truthy v))):PT X a (fun σ H Q=>ta σ H fun x H'=>∃k,ziF K x H' k/\Q k H'):=by subst h;exact yE ha he
def zaz (sp:Sp):Prop:=∀vs H Q Q' E,(∀v H1,Q v H1->Q' v H1)->sp vs H Q E->sp vs H Q' E
theorem zja {sp:Sp}(m:zaz sp):∀ σ H Q Q',(∀v H1,Q v H1->Q' v H1)->N5 sp [] E0 (V1 (Sg 0) zbu) σ H Q->N5 sp [] E0 (V1 (Sg 0) zbu) σ H Q' :=
 fun σ H Q Q' h ⟨v,e,q⟩=>⟨v,e,m _ _ _ _ _ h q⟩
theorem Mg (x:Str)(ts:List Str):inV (.str x) (ts.map V.str)=decide (x∈ts):=by
 induction ts with
 | nil=>rfl
 | cons t r ih =>
  have e:inV (.str x) ((t::r).map V.str)=((t==x)||inV (.str x) (r.map V.str)):=rfl
  rw[e,ih]
  by_cases h:t=x
  ·subst h;simp
  ·have h':¬x=t:=fun z=>h z.symm
   simp[h,h']
theorem Ym (ts:List Str):(ts.map V.str).all xX=true:=by
 rw[List.all_map,ztW]
 exact fun _ _=>rfl
theorem zjb {w:V}{rest:List V}{m n:Nat}(h:rest.length=m+n):QD (w::rest) (some 1) (some (1+(m:Int)))=rest.take m:=by
 have e1:HT.Zy (w::rest).length 0 (some 1)=min 1 (w::rest).length:=HT.R8 _ _ 1
 have e2:HT.Zy (w::rest).length (w::rest).length (some (1+(m:Int)))=min (1+m) (w::rest).length:=by
  have z:(1:Int)+(m:Int)=((1+m:Nat):Int):=by omega
  rw[z];exact HT.R8 _ _ _
 have l:(w::rest).length=m+n+1:=by rw[ztE,h]
 unfold QD
 rw[e1,e2,l,Nat.min_eq_left (by omega),Nat.min_eq_left (by omega),List.drop_one,List.tail_cons]
 congr 1
 omega
theorem zjc {w:V}{rest:List V}{m n:Nat}(h:rest.length=m+n):QD (w::rest) (some (1+(m:Int))) none=rest.drop m:=by
 have e2:HT.Zy (w::rest).length 0 (some (1+(m:Int)))=min (1+m) (w::rest).length:=by
  have z:(1:Int)+(m:Int)=((1+m:Nat):Int):=by omega
  rw[z];exact HT.R8 _ _ _
 have l:(w::rest).length=m+n+1:=by rw[ztE,h]
 unfold QD
 rw[e2,HT.zam,l,Nat.min_eq_left (by omega),Nat.add_comm 1 m,List.drop_succ_cons,List.take_of_length_le]
 rw[List.length_drop,h]
 omega
theorem zaA {w:V}{rest:List V}{i:Int}{o:Option Int}(h:1<=i):¬(HT.Zy (w::rest).length 0 (some i)=0/\HT.Zy (w::rest).length (w::rest).length o=(w::rest).length):=by
 rintro⟨h1,_⟩
 have e:HT.Zy (w::rest).length 0 (some i)=min i.toNat (w::rest).length:=by
  have z:=HT.R8 (w::rest).length 0 i.toNat
  have z2:((i.toNat:Nat):Int)=i:=by omega
  rw[z2] at z
  exact z
 rw[e,ztE] at h1
 omega
end
end L2
namespace yU
open PySem L2
section
variable {K:Frag}
def Sn.all:Sn->List Str
 | .c0 _=>[]
 | .mk x=>[x]
 | .nt s=>s.all
 | .b2 _ s t=>s.all++t.all
 | .q1 _ x s=>x::s.all
theorem Sn.zc8:∀(s:Sn) (x:Str),x∈s.all↔x∈s.letters\/∃t∈s.parts,x∈t.all
 | .c0 _,x=>by simp[Sn.all,Sn.letters,Sn.parts]
 | .mk y,x=>by simp[Sn.all,Sn.letters,Sn.parts]
 | .nt s,x=>by simp[Sn.all,Sn.letters,Sn.parts]
 | .b2 _ s t,x=>by simp[Sn.all,Sn.letters,Sn.parts]
 | .q1 _ y s,x=>by simp[Sn.all,Sn.letters,Sn.parts]
theorem Sn.Uz {os:List Str}:∀(s:Sn),s.QF os↔∀x∈s.all,x∈os
 | .c0 _=>by simp[Sn.all,Sn.QF]
 | .mk y=>by simp[Sn.all,Sn.QF]
 | .nt s=>by simp only[Sn.all,Sn.QF];exact Sn.Uz s
 | .b2 _ s t=>by
  simp only[Sn.all,Sn.QF,List.mem_append]
  rw[Sn.Uz s,Sn.Uz t]
  exact⟨fun h x hx=>hx.elim (h.1 x) (h.2 x),fun h=>⟨fun x hx=>h x (.inl hx),fun x hx=>h x (.inr hx)⟩⟩
 | .q1 _ y s=>by
  simp only[Sn.all,Sn.QF,List.mem_cons]
  rw[Sn.Uz s]
  exact⟨fun h x hx=>hx.elim (fun e=>by rw[e];exact h.1) (h.2 x),fun h=>⟨h y (.inl rfl),fun x hx=>h x (.inr hx)⟩⟩
theorem Sn.Mh:∀s:Sn,s.parts.length<=2
 | .c0 _=>by simp[Sn.parts]
 | .mk _=>by simp[Sn.parts]
 | .nt _=>by simp[Sn.parts]
 | .b2 _ _ _=>by simp[Sn.parts]
 | .q1 _ _ _=>by simp[Sn.parts]
theorem Sn.zaB:∀s:Sn,s.letters.length<=1
 | .c0 _=>by simp[Sn.letters]
 | .mk _=>by simp[Sn.letters]
 | .nt _=>by simp[Sn.letters]
 | .b2 _ _ _=>by simp[Sn.letters]
 | .q1 _ _ _=>by simp[Sn.letters]
def cnt (ss:List Sn):Nat:=(ss.map Sn.count).sum
theorem cnt_cons (s:Sn)(ss:List Sn):cnt (s::ss)=s.count+cnt ss:=rfl
theorem zkS (ss ts:List Sn):cnt (ss++ts)=cnt ss+cnt ts:=by
 unfold cnt;rw[ztG,List.sum_append]
theorem Qh:∀ss:List Sn,cnt ss=ss.length+cnt (ss.flatMap Sn.parts)
 | []=>rfl
 | s::ss=>by
  rw[cnt_cons,List.flatMap_cons,zkS,Qh ss,Sn.K6 s,ztE]
  show 1+cnt s.parts+_=_
  omega
theorem zgW (ss:List Sn):ss.length<=cnt ss:=by rw[Qh];omega
theorem LR {ss:List Sn}{t:Sn}:t∈ss.flatMap Sn.parts↔∃s∈ss,t∈s.parts:=List.mem_flatMap
inductive V4 (vs:List V)(H:Hp)(Q:VK)(E9:XK):Prop
 | mk (x:Str) (_:vs=[.str x]) (_:Q (.bl (decide (x∈ud))) H):V4 vs H Q E9
theorem K9:zaz V4:=fun vs H Q Q' E h ⟨x,e,q⟩=>⟨x,e,h _ _ q⟩
def zc9 (os:List Str):Bool:=decide (0<os.length)&&(os.all (fun x=>decide (x∈ud))&&decide os.Nodup)
theorem zkT {os:List Str}(h:Mf os):zc9 os=true:=by
 unfold zc9
 rw[decide_eq_true h.pos,decide_eq_true h.nd,ztW.mpr fun x hx=>decide_eq_true (h.mem x hx)]
 rfl
inductive Ka (K:Frag)(vs:List V)(H:Hp)(Q:VK)(E9:XK):Prop
 | mk (l:Addr) (os:List Str) (_:vs=[.ref l]) (_:zP K H l (os.map V.str)) (_:os.length<=100) (_:∀H',Same H H'->Q (.bl (zc9 os)) H'):Ka K vs H Q E9
def W7 (n:Nat)(ns:List Int):Bool:=decide (ns.length=n)&&ns.all (fun i=>i==0||i==1)
inductive J7 (K:Frag)(vs:List V)(H:Hp)(Q:VK)(E9:XK):Prop
 | mk (l r:Addr) (xs:List V) (ns:List Int) (_:vs=[.ref l,.ref r]) (_:zP K H l xs) (_:zP K H r (ns.map V.int)) (_:ns.length<=1000) (_:∀H',Same H H'->Q (.bl (W7 xs.length ns)) H'):J7 K vs H Q E9
def yW:List (Str×Int×Int):=[("yes", 0,0),("no", 0,0),("mark", 1,0),("not", 0,1),("and", 0,2),("or", 0,2),("either", 0,2),("if", 0,2),("some", 1,1),("each", 1,1)]
theorem ZF (s:Sn):(s.word,((s.letters.length:Nat):Int),((s.parts.length:Nat):Int))∈yW:=by
 cases s with
 | c0 y =>
  cases y
  ·show((Str.ofString "no", (0:Int),(0:Int)):Str×Int×Int)∈yW
   decide +kernel
  ·show((Str.ofString "yes", (0:Int),(0:Int)):Str×Int×Int)∈yW
   decide +kernel
 | mk x =>
  show((Str.ofString "mark", (1:Int),(0:Int)):Str×Int×Int)∈yW
  decide +kernel
 | nt s =>
  show((Str.ofString "not", (0:Int),(1:Int)):Str×Int×Int)∈yW
  decide +kernel
 | b2 o s t =>
  show((w2 o,(0:Int),(2:Int)):Str×Int×Int)∈yW
  revert o
  decide +kernel
 | q1 o x s =>
  cases o
  ·show((Str.ofString "each", (1:Int),(1:Int)):Str×Int×Int)∈yW
   decide +kernel
  ·show((Str.ofString "some", (1:Int),(1:Int)):Str×Int×Int)∈yW
   decide +kernel
inductive Y8 (vs:List V)(H:Hp)(Q:VK)(E9:XK):Prop
 | mk (p:Addr) (x:Str) (m n:Nat) (rest:List V) (_:vs=[.ref p]) (_:H p=some (.tup (.str x::rest))) (_:(x,(m:Int),(n:Int))∈yW) (_:rest.length=m+n) (_:∀q,H q=none->Q (.ref q) (upd H q (.tup (rest.take m)))):Y8 vs H Q E9
inductive Yn (vs:List V)(H:Hp)(Q:VK)(E9:XK):Prop
 | mk (p:Addr) (x:Str) (m n:Nat) (rest:List V) (_:vs=[.ref p]) (_:H p=some (.tup (.str x::rest))) (_:(x,(m:Int),(n:Int))∈yW) (_:rest.length=m+n) (_:∀q,H q=none->Q (.ref q) (upd H q (.tup (rest.drop m)))):Yn vs H Q E9
theorem Qi {H:Hp}{s:Sn}{p:Addr}(h:T8 H s p):∃qs:List Addr,H p=some (.tup (.str s.word::(s.letters.map V.str++qs.map V.ref)))/\Paired (T8 H) s.parts qs /\
  (s.letters.map V.str++qs.map V.ref).length=s.letters.length+s.parts.length/\(s.letters.map V.str++qs.map V.ref).take s.letters.length=s.letters.map V.str/\(s.letters.map V.str++qs.map V.ref).drop s.letters.length=qs.map V.ref:=by
 obtain⟨qs,h1,h2⟩:=h.shape
 have l:=xK h2
 refine⟨qs,h1,h2,by simp[l],?_,?_⟩
 ·rw[List.take_append_of_le_length (by simp),List.take_of_length_le (by simp)]
 ·rw[List.drop_append_of_le_length (by simp),List.drop_of_length_le (by simp)]
  rfl
inductive Xz (K:Frag)(vs:List V)(H:Hp)(Q:VK)(E9:XK):Prop
 | mk (l:Addr) (ss:List Sn) (ps:List Addr) (_:vs=[.ref l]) (_:zP K H l (ps.map V.ref)) (_:Paired (T8 H) ss ps) (_:ss.length<=400) (_:∀(l':Addr) (H':Hp) (ps':List Addr),Same H H'->H l'=none->H' l'=some (.lst (ps'.map V.ref))->Paired (T8 H') (ss.flatMap Sn.parts) ps'->Q (.ref l') H'):Xz K vs H Q E9
inductive Mi (vs:List V)(H:Hp)(Q:VK)(E9:XK):Prop
 | mk (p:Addr) (s:Sn) (_:vs=[.ref p]) (_:T8 H s p) (_:(∀x∈s.letters,x∈ud)) (_:∀H',Same H H'->Q (.bl true) H'):Mi vs H Q E9
theorem zek:zaz Mi:=fun vs H Q Q' E h ⟨p,s,e,h1,h2,q⟩=>⟨p,s,e,h1,h2,fun H' g=>h _ _ (q H' g)⟩
abbrev VC (sn:Sn)(zs:List Addr):List V:=V.str sn.word::(sn.letters.map V.str++zs.map V.ref)
inductive zda (vs:List V)(H:Hp)(Q:VK)(E9:XK):Prop
 | mk (p:Addr) (s:Sn) (_:vs=[.ref p]) (_:T8 H s p) (_:s.QF ud) (_:s.count<=200) (_:s.depth<=24) (_:∀H',Same H H'->Q (.bl true) H'):zda vs H Q E9
inductive SN (K:Frag)(vs:List V)(H:Hp)(Q:VK)(E9:XK):Prop
 | mk (l:Addr) (os:List Str) (_:vs=[.ref l]) (_:zP K H l (os.map V.str)) (_:Mf os) (_:∀H',Same H H'->Q .non H'):SN K vs H Q E9
inductive Kc (vs:List V)(H:Hp)(Q:VK)(E9:XK):Prop
 | mk (p:Addr) (s:Sn) (_:vs=[.ref p]) (_:T8 H s p) (_:s.QF ud) (_:s.count<=200) (_:s.depth<=24) (_:∀H',Same H H'->Q .non H'):Kc vs H Q E9
inductive Px (vs:List V)(H:Hp)(Q:VK)(E9:XK):Prop
 | mk (p:Addr) (s:Sn) (_:vs=[.ref p]) (_:T8 H s p) (_:s.count<=400) (_:∀(l:Addr) (H':Hp) (ts:List Sn) (ps:List Addr),Same H H'->H l=none->H' l=some (.lst (ps.map V.ref))->Paired (T8 H') ts ps->ts.length=s.count->(∀x,(∃t∈ts,x∈t.letters)↔x∈s.all)->Q (.ref l) H'):Px vs H Q E9
inductive SQ (vs:List V)(H:Hp)(Q:VK)(E9:XK):Prop
 | mk (p:Addr) (s:Sn) (_:vs=[.ref p]) (_:T8 H s p) (_:s.count<=400) (_:∀(l:Addr) (H':Hp) (xs:List Str),Same H H'->H l=none->H' l=some (.lst (xs.map V.str))->(∀x,x∈xs↔x∈s.all)->xs.length<=400->Q (.ref l) H'):SQ vs H Q E9
inductive UG (K:Frag)(vs:List V)(H:Hp)(Q:VK)(E9:XK):Prop
 | mk (l:Addr) (x:Str) (os:List Str) (_:vs=[.ref l,.str x]) (_:zP K H l (os.map V.str)) (_:x∈os) (_:Q .non H):UG K vs H Q E9
inductive SX (K:Frag)(vs:List V)(H:Hp)(Q:VK)(E9:XK):Prop
 | mk (l p:Addr) (os:List Str) (s:Sn) (_:vs=[.ref l,.ref p]) (_:zP K H l (os.map V.str)) (_:T8 H s p) (_:s.count<=400) (_:s.QF os) (_:∀H',Same H H'->Q .non H'):SX K vs H Q E9
end
end yU
namespace L2
open PySem
section
variable {K:Frag}{a:Addr}{xs:List V}{σ:St}{js:List Nat}{te:TE}{H:Hp}{Qf:Addr->Hp->List V->Prop}
theorem zkU (R:Nat->V->Prop)(hq:wG K H a xs)(hz:xs.length<=sizeLine)
  (hs:∀(i:Nat) x H',xs[i]?=some x->Same H H'->te (Zj σ js (some x)) H' fun v H3=>R i v/\Same H H3)
  (me:∀ σ H Q Q',(∀v H1,Q v H1->Q' v H1)->te σ H Q->te σ H Q')
  (hd:∀ys H' p,ys.length=xs.length->(∀(j:Nat) v,ys[j]?=some v->R j v)->Same H H'->H' p=none->Qf p H' ys) :
  ∃W:Nat->Nat->List V->Hp->Prop,(∃m,W 0 m [] H)/\∀i m ys H,W i m ys H ->
   ((Itt K a).stop i H/\∀p,H p=none->Qf p H ys) \/
   ((Itt K a).go i H/\ys.length<sizeLine/\∀x H',(Itt K a).R7 i H x H'->Sw (Zj σ js (some x)) H' fun b H2 =>
    if b=true then te (Zj σ js (some x)) H2 fun v H3=>∃m',m'<m/\W (i+1) m' (ys++[v]) H3 else ∃m',m'<m/\W (i+1) m' ys H2):=by
 refine ziT (fun i ys H'=>Same H H'/\ys.length=i/\∀(j:Nat) v,ys[j]?=some v->R j v) ⟨Same.refl _,rfl,fun j v h=>by simp at h⟩ hz ?_ ?_ (fun _ _ _ _ h q=>h _ _ q) me ?_
 ·rintro i ys H' hi ⟨g,e,r⟩
  exact⟨g.znP hq,by omega⟩
 ·rintro i x ys H' hx ⟨g,e,r⟩
  show te (Zj σ js (some x)) H' fun v H3=>Same H H3/\(ys++[v]).length=i+1/\∀(j:Nat) u,(ys++[v])[j]?=some u->R j u
  refine me _ _ _ _ (fun v H3 h3=>⟨h3.2,by rw[ztA,e];rfl,fun j u hj=>?_⟩) (hs i x H' hx g)
  by_cases hlt:j<ys.length
  ·rw[ztZ hlt] at hj
   exact r j u hj
  ·rw[List.getElem?_append_right (by omega)] at hj
   have hj0:j-ys.length=0:=by
    have:=(ztv.mp hj).1
    rw[zt0] at this
    omega
   rw[hj0] at hj
   have ev:v=u:=ztX hj
   have ej:j=i:=by omega
   rw[<-ev,ej]
   exact h3.1
 ·rintro ys H' p ⟨g,e,r⟩ hp
  exact hd ys H' p e r g hp
theorem znQ {sp:Sp}(m:zaz sp):∀ σ H Q Q',(∀v H1,Q v H1->Q' v H1)->N5 sp [] E0 (V1 (Sg 0) (V1 (Sg 1) zbu)) σ H Q->N5 sp [] E0 (V1 (Sg 0) (V1 (Sg 1) zbu)) σ H Q' :=
 fun σ H Q Q' h ⟨v,e,u,e',q⟩=>⟨v,e,u,e',m _ _ _ _ _ h q⟩
theorem ne_str {x y:Str}(h:x≠y):¬decide (V.str x=V.str y)=true:=fun z=>h (by have:=of_decide_eq_true z;injection this)
theorem len1 {α:Type}{ys:List α}(h:ys.length=1):∃v,ys=[v]:=by
 match ys,h with
 | [v],_=>exact⟨v,rfl⟩
theorem len2 {α:Type}{ys:List α}(h:ys.length=2):∃v u,ys=[v,u]:=by
 match ys,h with
 | [v,u],_=>exact⟨v,u,rfl⟩
end
end L2
namespace yU
open PySem L2
section
variable {K:Frag}
def ix (os:List Str)(x:Str):Nat:=os.findIdx (·==x)
theorem XC:∀{os:List Str} {x:Str},x∈os->(os.map V.str).findIdx? (fun z=>eqV z (.str x))=some (ix os x)/\ix os x<os.length/\os[ix os x]?=some x
 | t::r,x,h=>by
  unfold ix
  rw[ztR,List.findIdx?_cons,List.findIdx_cons]
  show(if (t==x)=true then some 0 else _)=_/\_
  by_cases e:t=x
  ·subst e
   simp
  ·have hb:(t==x)=false:=by simpa using e
   have hr:x∈r:=by
    rcases List.mem_cons.mp h with z | z
    ·exact absurd z.symm e
    ·exact z
   obtain⟨h1,h2,h3⟩:=XC hr
   rw[hb,h1]
   unfold ix at h2 h3 ⊢
   refine⟨rfl,?_,?_⟩
   ·show(r.findIdx (·==x))+1<(t::r).length
    rw[ztE];omega
   ·show(t::r)[(r.findIdx (·==x))+1]?=some x
    rw[List.getElem?_cons_succ];exact h3
theorem zfQ {os:List Str}{x y:Str}(hx:x∈os)(hy:y∈os):ix os y=ix os x↔y=x:=by
 constructor
 ·intro e
  have h1:=(XC hx).2.2
  have h2:=(XC hy).2.2
  rw[e,h1] at h2
  exact(ztX h2).symm
 ·intro e;rw[e]
def xG (os:List Str)(b:Nat):Str->Bool:=fun x=>b.testBit (ix os x)
theorem J8 {os:List Str}{s:Sn}{x:Str}(hs:s.QF os)(hx:x∈os)(b:Nat)(v:Bool):s.val (fun y=>if y=x then v else xG os b y)=s.val (xG os (zM b (ix os x) v)):=by
 refine Sn.val_congr s hs fun y hy=>?_
 show _=(zM b (ix os x) v).testBit (ix os y)
 rw[zQ]
 by_cases e:y=x
 ·rw[if_pos e,if_pos ((zfQ hx hy).mpr e)]
 ·rw[if_neg e,if_neg (fun z=>e ((zfQ hx hy).mp z))]
  rfl
theorem yD (b p:Nat):zM b p (b.testBit p)=b:=by unfold zM;rw[if_pos rfl]
theorem zjd {os:List Str}{s:Sn}{x:Str}(hs:s.QF os)(hx:x∈os)(b:Nat):(Sn.q1 true x s).val (xG os b)=(s.val (xG os b)||s.val (xG os (zM b (ix os x) (!b.testBit (ix os x))))):=by
 show(s.val (fun y=>if y=x then true else xG os b y)||s.val (fun y=>if y=x then false else xG os b y))=_
 rw[J8 hs hx,J8 hs hx]
 have z:=yD b (ix os x)
 cases hb:b.testBit (ix os x)
 ·rw[hb] at z;rw[z];exact Bool.or_comm _ _
 ·rw[hb] at z;rw[z];rfl
theorem zje {os:List Str}{s:Sn}{x:Str}(hs:s.QF os)(hx:x∈os)(b:Nat):(Sn.q1 false x s).val (xG os b)=(s.val (xG os b)&&s.val (xG os (zM b (ix os x) (!b.testBit (ix os x))))):=by
 show(s.val (fun y=>if y=x then true else xG os b y)&&s.val (fun y=>if y=x then false else xG os b y))=_
 rw[J8 hs hx,J8 hs hx]
 have z:=yD b (ix os x)
 cases hb:b.testBit (ix os x)
 ·rw[hb] at z;rw[z];exact Bool.and_comm _ _
 ·rw[hb] at z;rw[z];rfl
def TabOf (os:List Str)(s:Sn)(N:Nat):Prop:=zV os.length N (fun b=>s.val (xG os b))
theorem zlQ:∀o,w2 o≠Str.ofString "no" := by decide +kernel
theorem zjf:∀o,w2 o≠Str.ofString "yes" := by decide +kernel
theorem zgX:∀o,w2 o≠Str.ofString "mark" := by decide +kernel
theorem zjg:∀o,w2 o≠Str.ofString "not" := by decide +kernel
theorem zgY:∀o,w2 o≠Str.ofString "some" := by decide +kernel
theorem zgZ:∀o,w2 o≠Str.ofString "each" := by decide +kernel
theorem zmK (o:Fin 4):o=0\/o=1\/o=2\/o=3:=by
 match o with
 | 0=>exact .inl rfl
 | 1=>exact .inr (.inl rfl)
 | 2=>exact .inr (.inr (.inl rfl))
 | 3=>exact .inr (.inr (.inr rfl))
inductive zel (vs:List V)(H:Hp)(Q:VK)(E9:XK):Prop
 | mk (o:Fin 4) (N M n:Nat) (f g:Nat->Bool) (_:vs=[.str (w2 o),.int N,.int M,.int ((2^2^n-1:Nat):Int)]) (_:zV n N f) (_:zV n M g) (_:∀R:Nat,zV n R (fun b=>Sn.op2 o (f b) (g b))->Q (.int R) H):zel vs H Q E9
inductive UJ (K:Frag)(d:Nat)(vs:List V)(H:Hp)(Q:VK)(E9:XK):Prop
 | mk (p l:Addr) (s:Sn) (os:List Str) (_:vs=[.ref p,.ref l]) (_:T8 H s p) (_:zP K H l (os.map V.str)) (_:s.QF os) (_:os.length<=8) (_:s.depth<=d) (_:∀(N:Nat) (H':Hp),Same H H'->TabOf os s N->Q (.int N) H'):UJ K d vs H Q E9
theorem zfR (d:Nat):zaz (UJ K d):=fun vs H Q Q' E h ⟨p,l,s,os,e,h1,h2,h3,h4,h5,q⟩=>⟨p,l,s,os,e,h1,h2,h3,h4,h5,fun N H' g z=>h _ _ (q N H' g z)⟩
end
end yU
namespace L2
open PySem
theorem Kd {x a b:Str}(h1:x≠a)(h2:x≠b):¬(if false=true then !inV (.str x) [.str a,.str b] else inV (.str x) [.str a,.str b])=true:=by
 rw[if_neg ztw]
 have e:=Mg x [a,b]
 have e':inV (.str x) [.str a,.str b]=decide (x∈[a,b]):=e
 rw[e']
 intro z
 have:=of_decide_eq_true z
 simp at this
 rcases this with z | z
 ·exact h1 z
 ·exact h2 z
theorem zdb {x a b:Str}(h:x=a\/x=b):(if false=true then !inV (.str x) [.str a,.str b] else inV (.str x) [.str a,.str b])=true:=by
 rw[if_neg ztw]
 have e:=Mg x [a,b]
 have e':inV (.str x) [.str a,.str b]=decide (x∈[a,b]):=e
 rw[e']
 refine decide_eq_true ?_
 simp
 exact h
end L2
namespace yU
open PySem L2
section
variable {K:Frag}
theorem znR:∀o:Bool,(if o then Str.ofString "some" else Str.ofString "each")≠Str.ofString "yes" /\ (if o then Str.ofString "some" else Str.ofString "each")≠Str.ofString "no" /\ (if o then Str.ofString "some" else Str.ofString "each")≠Str.ofString "mark" := by decide +kernel
theorem zg0 {os:List Str}{s:Sn}{x:Str}{r:List Bool}(hs:s.QF os)(hx:x∈os)(hl:r.length=os.length)(b:Bool):s.val (xG os (zu (r.set (ix os x) b)))=s.val (fun y=>if y=x then b else xG os (zu r) y):=by
 refine Sn.val_congr s hs fun y hy=>?_
 show(zu (r.set (ix os x) b)).testBit (ix os y)=if y=x then b else (zu r).testBit (ix os y)
 rw[xQ,xQ]
 by_cases e:y=x
 ·rw[if_pos e,e,List.getElem?_set_self (by rw[hl];exact(XC hx).2.1)]
  rfl
 ·rw[if_neg e,List.getElem?_set_ne (fun z=>e ((zfQ hx hy).mp z.symm))]
theorem zjh (r:List Bool)(i:Nat)(b:Bool):(zX r).set i (.int (b.toNat:Nat))=zX (r.set i b):=by
 unfold zX
 rw[List.map_set]
theorem zkV {r:List Bool}{i:Nat}(h:i<r.length):(zX r)[i]?=some (.int (((r[i]?).getD false).toNat:Nat)):=by
 rw[ztu,ztt h]
 rfl
inductive Mj (K:Frag)(d:Nat)(vs:List V)(H:Hp)(Q:VK)(E9:XK):Prop
 | mk (p l rl:Addr) (s:Sn) (os:List Str) (r:List Bool) (_:vs=[.ref p,.ref l,.ref rl]) (_:T8 H s p) (_:zP K H l (os.map V.str)) (_:zP K H rl (zX r)) (_:s.QF os) (_:os.length<=8) (_:r.length=os.length) (_:s.depth<=d) (_:∀H',Same H H'->Q (.int ((s.val (xG os (zu r))).toNat:Nat)) H'):Mj K d vs H Q E9
inductive zg1 (K:Frag)(vs:List V)(H:Hp)(Q:VK)(E9:XK):Prop
 | mk (a:Addr) (ns:List Int) (_:vs=[.ref a]) (_:zP K H a (ns.map V.int)) (_:ns.length<=63) (_:∀H',Q (.bl true) H'):zg1 K vs H Q E9
end
end yU
namespace L2
open PySem PySem.Spec PyProof.Rows
theorem QJ {α:Type}{us:List α}(h:us.length=0):us=[]:=List.length_eq_zero_iff.mp h
theorem Ml {α:Type}{us:List α}{n:Nat}(h:us.length=n+1):∃a vs,us=a::vs/\vs.length=n:=by
 cases us with
 | nil=>cases h
 | cons a vs=>exact⟨a,vs,rfl,by simpa using h⟩
def znS (N P:List Str)(sc:Scope):Bool:=(match sc.kind with | .function=>true | _=>false)&&!sc.isCoroutine&&!sc.isGenerator&&decide N.Nodup&&decide (N.take P.length=P)&&P.all (fun x=>decide (sc.names.lookup x=some .local\/sc.names.lookup x=some .cell))&&sc.names.all (fun y=>decide (y.2≠.free))
theorem fsc {N P:List Str}{sc:Scope}(h:znS N P sc=true):zK N P sc:=by
 unfold znS at h
 simp only[ztU,Bool.not_eq_true',decide_eq_true_eq,ztW] at h
 obtain⟨⟨⟨⟨⟨⟨h1,h2⟩,h3⟩,h4⟩,h5⟩,h6⟩,h7⟩:=h
 refine⟨?_,h2,h3,h4,h5,h6,h7⟩
 revert h1
 cases sc.kind<;>simp
structure Df (K:Frag)(mg:Str->Option Value)(x:Str)(st:Stmt)(f:Addr)(d:FuncData)(ps:List Str):Prop where
 F:Fun K x x st f d
 b:Binds K d ps []
 m:mg x=some (.ref f)
structure Dm (K:Frag)(C:Addr)(x q:Str)(st:Stmt)(f:Addr)(d:FuncData)(ps:List Str):Prop where
 F:Fun K x q st f d
 b:Binds K d ps []
 e:Meth K C x f
section
variable {K:Frag}{h:Heap}{mg:Str->Option Value}{x q:Str}{st:Stmt}{f C:Addr}{oc:Value}{od an:Option Addr}{osl:Array (Option Value)}{kV doc pm cdv ct:Value}{ps:List Str}
theorem dfm (X:K.In h)(G:h.Ns mainGlobals mg)(n:nsIn K mainGlobals x=some (some (.ref f)))(l:K.lookup f=some ⟨oc,od,.func (PySem.W.fnOf x x (Yz st) (uc st) (zq st) .none kV doc pm an cdv ct),osl⟩)
  (c:PySem.W.codeIn K cdv x=true)(k:PySem.W.keepIn K (.ref f)=true)
  (b:∀(kV doc pm:Value) (an:Option Addr) (cdv ct:Value) (us:List Value),us.length=ps.length->bindArgs (PySem.W.fnOf x x (Yz st) (uc st) (zq st) .none kV doc pm an cdv ct) ⟨us,[]⟩=pure (ps.zip us)) :
  Df K mg x st f (PySem.W.fnOf x x (Yz st) (uc st) (zq st) .none kV doc pm an cdv ct) ps:=⟨zcU l c k,(zcU l c k).binds b,mg_of X G n⟩
theorem dmm (n:findIn K (.ref C) x=some (some (.ref f)))(i:PySem.W.isFn K (.ref f)=true)(l:K.lookup f=some ⟨oc,od,.func (PySem.W.fnOf x q (Yz st) (uc st) (zq st) .none kV doc pm an cdv ct),osl⟩)
  (c:PySem.W.codeIn K cdv q=true)(k:PySem.W.keepIn K (.ref f)=true)
  (b:∀(kV doc pm:Value) (an:Option Addr) (cdv ct:Value) (us:List Value),us.length=ps.length->bindArgs (PySem.W.fnOf x q (Yz st) (uc st) (zq st) .none kV doc pm an cdv ct) ⟨us,[]⟩=pure (ps.zip us)) :
  Dm K C x q st f (PySem.W.fnOf x q (Yz st) (uc st) (zq st) .none kV doc pm an cdv ct) ps:=⟨zcU l c k,(zcU l c k).binds b,⟨n,i,k⟩⟩
theorem zg2 {p:Addr}{it:Array Value}{n:Nat}{od:Option Addr}{sl:Array (Option Value)}{xs:List V}(l:K.lookup p=some ⟨.type "tuple", od,.seq it n,sl⟩)(v:it.toList.map zbs=xs.map some)(h:xs.length<=1000):∀H,wG K H p xs:=fun H=>zlO l v h
end
section
variable {X:Cx}{CX:CXT}{k:Nat}{f C:Addr}{fd:FuncData}{ps:List Str}{sp:Sp}{st:Stmt}{x q m:Str}{p pos apos:Pos}{e o:Expr}{es:List Expr}{t:TA}{ta:TE}{E:XK}
theorem zp (F:zE X.prog X.w X.K X.mg X.base zW k f fd ps sp)(hr:Zh k X.A)(D:Df X.K X.mg x st f fd ps)(ha:PA X (e::es) t)(hg:Gl X x:=by rfl)(hdb:(x==("__debug__" : Str))=false:=by decide)(he:starEach (e::es) X.env=(false,eval e X.env)::starEach es X.env:=by rfl)(hpl:(backTo pos (starEach es X.env)).any (·.1)=false:=by rfl) :
  PE X (.Call (.Name x p) (e::es) [] pos) (N5 sp [] E0 t):=zkr F hr hg D.m D.F.2 D.b .nil zgP ha hdb he hpl
theorem u9 {pl:Sem Bool}(he:PE X o ta)(c:Cls X.K C)(D:Dm X.K C m q st f fd ps)(F:zE X.prog X.w X.K X.mg X.base zW k f fd ps sp)(hr:Zh k X.A)(ha:PA X (e::es) t)
  (hst:starEach (e::es) X.env=(false,eval e X.env)::starEach es X.env:=by rfl)(hpl:(backTo pos (starEach es X.env)).any (·.1)=false:=by rfl)
  (ht:eval (.Call (.Attribute o m apos) (e::es) [] pos) X.env=(do
   let ov <-eval o X.env
   standAt apos.atName
   let (f,first) <-holding [ov] (getMethod ov m pl)
   callWith pos f first (backTo pos (starEach (e::es) X.env)) (backToKw pos (keywordEach [] X.env))):=by rfl) :
  PE X (.Call (.Attribute o m apos) (e::es) [] pos) (zgL C m sp [] E0 ta t):=zks he c D.e F hr D.b .nil zgP ha hst hpl ht
theorem Qj {pl:Sem Bool}(he:PE X o ta)(c:Cls X.K C)(D:Dm X.K C m q st f fd ps)(F:zE X.prog X.w X.K X.mg X.base zW k f fd ps sp)(hr:Zh k X.A)
  (ht:eval (.Call (.Attribute o m apos) [] [] pos) X.env=(do
   let ov <-eval o X.env
   standAt apos.atName
   let (f,first) <-holding [ov] (getMethod ov m pl)
   callWith pos f first (backTo pos (starEach [] X.env)) (backToKw pos (keywordEach [] X.env))):=by rfl) :
  PE X (.Call (.Attribute o m apos) [] [] pos) (zgL C m sp [] E0 ta zbu):=ziI he c D.e F hr D.b .nil zgP ht
end
inductive Ent (K:Frag)(w:World):List DictEntry->List (Str×Int×Int)->List (Str×Value)->Prop
 | nil:Ent K w [] [] []
 | cons {k:Str} {tk:Tok} {p:Addr} {m n:Int} {od:Option Addr} {it:Array Value} {z:Nat} {sl:Array (Option Value)} {es:List DictEntry} {tb:List (Str×Int×Int)} {kvs:List (Str×Value)} (l:K.lookup p=some ⟨.type "tuple", od,.seq it z,sl⟩) (v:it.toList.map zbs=[V.int m,V.int n].map some) (t:Ent K w es tb kvs) :
   Ent K w (⟨hashStr w k,.str k tk,.ref p⟩::es) ((k,m,n)::tb) ((k,.ref p)::kvs)
structure Shp (K:Frag)(P:Program)(w:World)(a:Addr)(kvs:List (Str×Value))(tb:List (Str×Int×Int)):Prop where
 d:zkJ K P w a kvs
 y:∀k m n,(k,m,n)∈tb->∃p,valueAt kvs k=some (.ref p)/\∀H,wG K H p [.int m,.int n]
 z:∀k,(∀e∈tb,e.1≠k)->valueAt kvs k=none
theorem Ent.keys {K:Frag}{w:World}{es:List DictEntry}{tb:List (Str×Int×Int)}{kvs:List (Str×Value)}(h:Ent K w es tb kvs):kvs.map (·.1)=tb.map (·.1):=by
 induction h with
 | nil=>rfl
 | cons _ _ _ ih=>rw[ztR,ztR,ih]
theorem zmL {K:Frag}{P:Program}{w:World}{a:Addr}{es:Array DictEntry}{ep:Nat}{kvs:List (Str×Value)}{tb:List (Str×Int×Int)}(l:K.lookup a=some ⟨.type "dict", none,.dict es ep,#[]⟩)(s:(a==sysModules)=false)(nd:decide (tb.map (·.1)).Nodup=true)(h:Ent K w es.toList tb kvs):Shp K P w a kvs tb:=by
 have nk:(kvs.map (·.1)).Nodup:=by rw[h.keys];exact of_decide_eq_true nd
 obtain⟨el,hel⟩:∃el,es.toList=el:=⟨_,rfl⟩
 rw[hel] at h
 refine⟨zkN l hel s ?_ nk,?_,?_⟩
 ·clear nd nk l s hel
  induction h with
  | nil=>exact zmI
  | cons _ _ _ ih=>exact zkM ih
 ·clear nd l s hel
  induction h with
  | nil=>intro k m n hm;cases hm
  | @cons k0 tk p m0 n0 od it z sl es tb kvs l v t ih =>
   intro k m n hm
   rw[ztR,List.nodup_cons] at nk
   rcases List.mem_cons.mp hm with e | e
   ·cases e
    refine⟨p,?_,fun H=>zlO l v (by show 2<=1000;decide)⟩
    simp[valueAt]
   ·obtain⟨q,hq,sq⟩:=ih nk.2 k m n e
    refine⟨q,?_,sq⟩
    have ne:k0≠k:=fun z=>nk.1 (by rw[z,t.keys];exact List.mem_map.mpr ⟨_,e,rfl⟩)
    simp[valueAt,ne] at hq ⊢
    exact hq
 ·clear nd nk l s hel
  induction h with
  | nil=>intro k _;rfl
  | @cons k0 tk p m0 n0 od it z sl es tb kvs l v t ih =>
   intro k hk
   have ne:=hk (k0,m0,n0) (ztM ..)
   have:=ih k fun e he=>hk e (ztD _ he)
   simp[valueAt] at this ⊢
   exact⟨ne,this⟩
theorem zJ {X:Cx}{pos:Pos}(i:Nat){x:Str}{e:Expr}{te:TE}{pos':Pos}(hN:X.N.Nodup)(he:PE X e te)(hi:X.N[i]?=some x:=by rfl)(hx:Loc X.env.scope x:=by exact Or.inl rfl)(hs:swapsWith e (some (.Name x pos')) pos.line X.env=pure false:=by rfl)(hf:X.fn x=true\/X.env.scope.names.lookup x=some .local:=by first | exact .inl rfl | exact .inr rfl | assumption) :
  PS X (.Assign [.Name x pos'] e pos) (zko te (Yg i)):=Lp hN hi hx he hs hf
def lcB (wO sc:Scope)(x:Str)(fv:List Str):Bool:=(match sc.kind with | .function=>true | _=>false)&&sc.names.all (fun y=>decide (y.2≠.cell))&&sc.names.all (fun y=>decide (y.2=.local->sc.names.lookup y.1=some .local))&&decide (sc.names.lookup x=some .local)&&sc.names.all (fun y=>decide (y.2=.free->wO.names.lookup y.1=some .cell\/wO.names.lookup y.1=some .free))&&fv.all (fun y=>decide (sc.names.lookup y=some .free/\(wO.names.lookup y=some .cell\/wO.names.lookup y=some .free)))&&decide (x::fv).Nodup
theorem Ja {wO sc:Scope}{x:Str}{fv:List Str}(h:lcB wO sc x fv=true):uZ wO sc x fv:=by
 unfold lcB at h
 simp only[ztU,decide_eq_true_eq,ztW] at h
 obtain⟨⟨⟨⟨⟨⟨h1,h2⟩,h3⟩,h4⟩,h5⟩,h6⟩,h7⟩:=h
 refine⟨?_,h2,h3,h4,h5,h6,h7⟩
 revert h1
 cases sc.kind<;>simp
section
variable {κ:Type}[DecidableEq κ]
def Zx (kvs:List (κ×V))(k:κ):Option V:=(kvs.find? fun kv=>decide (kv.1=k)).map (·.2)
def putK (kvs:List (κ×V))(k:κ)(v:V):List (κ×V) :=
 if (kvs.any fun kv=>decide (kv.1=k))=true then kvs.map (fun kv=>if kv.1=k then (kv.1,v) else kv) else kvs++[(k,v)]
def Jb (kvs:List (κ×V))(k:κ):List (κ×V):=kvs.filter fun kv=>decide (kv.1≠k)
theorem vP {p:κ×V}{r:List (κ×V)}{k:κ}(e:p.1=k):Zx (p::r) k=some p.2:=by simp[Zx,List.find?_cons,e]
theorem wW {p:κ×V}{r:List (κ×V)}{k:κ}(e:¬p.1=k):Zx (p::r) k=Zx r k:=by simp[Zx,List.find?_cons,e]
theorem S5 (k:κ):∀kvs:List (κ×V),(kvs.any fun kv=>decide (kv.1=k))=(Zx kvs k).isSome
 | []=>rfl
 | p::r=>by
  rw[List.any_cons]
  by_cases e:p.1=k
  ·simp only[vP e,decide_eq_true e,Bool.true_or,Option.isSome_some]
  ·rw[wW e,decide_eq_false e,Bool.false_or];exact S5 k r
theorem zem (k j:κ)(y:V):∀kvs:List (κ×V),Zx (kvs.map fun kv=>if kv.1=k then (kv.1,y) else kv) j=(Zx kvs j).map fun x=>if j=k then y else x
 | []=>rfl
 | p::r=>by
  have ih:=zem k j y r
  rw[ztR]
  by_cases h:p.1=k
  ·rw[if_pos h]
   by_cases e:p.1=j
   ·rw[vP (p:=(p.1,y)) e,vP e,Option.map_some,if_pos (e.symm.trans h)]
   ·rw[wW (p:=(p.1,y)) e,wW e,ih]
  ·rw[if_neg h]
   by_cases e:p.1=j
   ·rw[vP (p:=p) e,vP e,Option.map_some,if_neg (fun z=>h (e.trans z))]
   ·rw[wW (p:=p) e,wW e,ih]
theorem zcf (k j:κ)(y:V):∀kvs:List (κ×V),Zx kvs k=none->Zx (kvs++[(k,y)]) j=if j=k then some y else Zx kvs j
 | [],_=>by
  by_cases e:k=j
  ·rw[if_pos e.symm];exact vP (p:=(k,y)) e
  ·rw[if_neg (fun z=>e z.symm)];exact wW (p:=(k,y)) e
 | p::r,hn=>by
  rw[List.cons_append]
  have hk:¬p.1=k:=fun z=>by rw[vP z] at hn;cases hn
  rw[wW hk] at hn
  have ih:=zcf k j y r hn
  by_cases e:p.1=j
  ·rw[vP e,vP e,if_neg (fun z=>hk (e.trans z))]
  ·rw[wW e,wW e,ih]
theorem wX (kvs:List (κ×V))(k j:κ)(y:V):Zx (putK kvs k y) j=if j=k then some y else Zx kvs j:=by
 unfold putK
 by_cases a:(kvs.any fun kv=>decide (kv.1=k))=true
 ·rw[if_pos a,zem]
  rw[S5] at a
  by_cases e:j=k
  ·obtain⟨x,hx⟩:=Option.isSome_iff_exists.mp a
   rw[if_pos e,e,hx,Option.map_some,if_pos rfl]
  ·rw[if_neg e]
   cases Zx kvs j with
   | none=>rfl
   | some x=>rw[Option.map_some,if_neg e]
 ·rw[if_neg a]
  refine zcf k j y kvs ?_
  rw[S5] at a
  cases q:Zx kvs k with
  | none=>rfl
  | some x=>rw[q] at a;exact(a rfl).elim
theorem Vb (kvs:List (κ×V))(k:κ)(v:V):(putK kvs k v).length<=kvs.length+1:=by
 unfold putK
 split
 ·rw[zts];omega
 ·rw[ztA,ztE,List.length_nil];omega
theorem zji {kvs:List (κ×V)}{k:κ}(v:V)(h:Zx kvs k=none):putK kvs k v=kvs++[(k,v)]:=by
 unfold putK
 rw[S5,h]
 exact if_neg (by decide)
theorem T9.Qk {o:Option V}{u:Option Value}(r:T9 o u):o.isSome=u.isSome:=by
 cases o with
 | none=>cases u with
  | none=>rfl
  | some _=>exact(show False from r).elim
 | some _=>cases u with
  | none=>exact(show False from r).elim
  | some _=>rfl
theorem KV.val {kvs:List (κ×V)}{vs:List (κ×Value)}(r:KV kvs vs)(k:κ):T9 (Zx kvs k) (valueAt vs k):=by
 unfold KV at r
 induction r with
 | nil=>exact True.intro
 | @cons p q ps qs h t ih =>
  obtain⟨h1,h2⟩:=h
  by_cases e:p.1=k
  ·have e':q.1=k:=h1.symm.trans e
   have b:valueAt (q::qs) k=some q.2:=by simp[valueAt,List.find?_cons,e']
   rw[vP e,b];exact h2
  ·have e':¬q.1=k:=fun z=>e (h1.trans z)
   have b:valueAt (q::qs) k=valueAt qs k:=by simp[valueAt,List.find?_cons,e']
   rw[wW e,b];exact ih
theorem KV.any {kvs:List (κ×V)}{vs:List (κ×Value)}(r:KV kvs vs)(k:κ):(kvs.any fun kv=>decide (kv.1=k))=vs.any fun kv=>decide (kv.1=k):=by
 unfold KV at r
 induction r with
 | nil=>rfl
 | cons h t ih=>rw[List.any_cons,List.any_cons,ih,h.1]
theorem KV.repl {kvs:List (κ×V)}{vs:List (κ×Value)}(r:KV kvs vs)(k:κ){y:V}{u:Value}(ry:RelV y u) :
  KV (kvs.map fun kv=>if kv.1=k then (kv.1,y) else kv) (vs.map fun kv=>if kv.1=k then (kv.1,u) else kv):=by
 unfold KV at r ⊢
 induction r with
 | nil=>exact .nil
 | @cons p q ps qs h t ih =>
  rw[ztR,ztR]
  refine .cons ?_ ih
  obtain⟨h1,h2⟩:=h
  by_cases e:p.1=k
  ·rw[if_pos e,if_pos (h1.symm.trans e)];exact⟨h1,ry⟩
  ·rw[if_neg e,if_neg (fun z=>e (h1.trans z))];exact⟨h1,h2⟩
theorem KV.put {kvs:List (κ×V)}{vs:List (κ×Value)}(r:KV kvs vs)(k:κ){y:V}{u:Value}(ry:RelV y u):KV (putK kvs k y) (stored vs k u):=by
 unfold putK stored
 rw[r.any k]
 by_cases e:(vs.any fun kv=>decide (kv.1=k))=true
 ·rw[if_pos e,if_pos e];exact r.repl k ry
 ·rw[if_neg e,if_neg e];exact Paired.snoc r ⟨rfl,ry⟩
theorem KV.drop {kvs:List (κ×V)}{vs:List (κ×Value)}(r:KV kvs vs)(k:κ):KV (Jb kvs k) (without vs k):=by
 unfold KV at r ⊢
 unfold Jb without
 induction r with
 | nil=>exact .nil
 | @cons p q ps qs h t ih =>
  obtain⟨h1,h2⟩:=h
  rw[List.filter_cons,List.filter_cons]
  by_cases e:p.1=k
  ·have a:¬decide (p.1≠k)=true:=by simp[e]
   have b:¬decide (q.1≠k)=true:=by simp[h1.symm.trans e]
   rw[if_neg a,if_neg b];exact ih
  ·have e':¬q.1=k:=fun z=>e (h1.trans z)
   have a:decide (p.1≠k)=true:=by simp[e]
   have b:decide (q.1≠k)=true:=by simp[e']
   rw[if_pos a,if_pos b];exact .cons ⟨h1,h2⟩ ih
theorem KV.length {kvs:List (κ×V)}{vs:List (κ×Value)}(r:KV kvs vs):kvs.length=vs.length:=Paired.length r
theorem zen (kvs:List (κ×V))(k:κ):(Jb kvs k).length<=kvs.length:=zt1 _ _
end
theorem zaC {P:Program}{w:World}{k:Key}{u:Value}(r:RelV (kV k) u):(yd P w).is k u=true:=by
 cases k with
 | inl i=>obtain⟨t,e⟩:=(show ∃t,u=Value.int i t from r);subst e;exact zd4 P w i t
 | inr x=>obtain⟨t,e⟩:=(show ∃t,u=Value.str x t from r);subst e;exact zd5 P w x t
theorem zcg {P:Program}{w:World}:∀{ks:List Key} {us:List Value},Vals (ks.map kV) us->ItemsAre (yd P w) ks us
 | [],_,r=>by rw[List.map_nil] at r;cases r;exact .nil
 | k::ks,_,r=>by
  rw[ztR] at r
  cases r with
  | cons h t=>exact .cons (zaC h) (zcg t)
abbrev KT (H:Hp):List (List Key×V)->List (List Key×Addr×Value)->Prop:=Paired fun p q=>p.1=q.1/\H q.2.1=some (.tup (p.1.map kV))/\RelV p.2 q.2.2
theorem KT.val {H:Hp}{kvs:List (List Key×V)}{xs:List (List Key×Addr×Value)}(r:KT H kvs xs)(k:List Key):T9 (Zx kvs k) ((atKey xs k).map (·.2)):=by
 induction r with
 | nil=>exact True.intro
 | @cons p q ps qs h t ih =>
  obtain⟨h1,_,h2⟩:=h
  by_cases e:p.1=k
  ·have e':q.1=k:=h1.symm.trans e
   have b:atKey (q::qs) k=some q.2:=by simp[atKey,List.find?_cons,e']
   rw[vP e,b];exact h2
  ·have e':¬q.1=k:=fun z=>e (h1.trans z)
   have b:atKey (q::qs) k=atKey qs k:=by simp[atKey,List.find?_cons,e']
   rw[wW e,b];exact ih
theorem KT.repl {H:Hp}{kvs:List (List Key×V)}{xs:List (List Key×Addr×Value)}(r:KT H kvs xs)(k:List Key){y:V}{u:Value}(ry:RelV y u) :
  KT H (kvs.map fun kv=>if kv.1=k then (kv.1,y) else kv) (xs.map (putAt k u)):=by
 induction r with
 | nil=>exact .nil
 | @cons p q ps qs h t ih =>
  rw[ztR,ztR]
  refine .cons ?_ ih
  obtain⟨h1,h2,h3⟩:=h
  unfold putAt
  by_cases e:p.1=k
  ·rw[if_pos e,if_pos (h1.symm.trans e)];exact⟨h1,h2,ry⟩
  ·rw[if_neg e,if_neg (fun z=>e (h1.trans z))];exact⟨h1,h2,h3⟩
theorem KT.put {H:Hp}{kvs:List (List Key×V)}{xs:List (List Key×Addr×Value)}(r:KT H kvs xs)(k:List Key){b:Addr}{y:V}{u:Value}(hb:H b=some (.tup (k.map kV)))(ry:RelV y u) :
  KT H (putK kvs k y) (storedH xs k b u):=by
 have e:(kvs.any fun kv=>decide (kv.1=k))=(atKey xs k).isSome:=by
  rw[S5,(r.val k).Qk,Option.isSome_map]
 unfold putK storedH
 rw[e]
 by_cases q:(atKey xs k).isSome=true
 ·rw[if_pos q,if_pos q];exact r.repl k ry
 ·rw[if_neg q,if_neg q];exact Paired.snoc r ⟨rfl,hb,ry⟩
theorem KT.keeps {H H':Hp}{kvs:List (List Key×V)}{xs:List (List Key×Addr×Value)}(r:KT H kvs xs)(ht:∀b ys,H b=some (.tup ys)->H' b=some (.tup ys)):KT H' kvs xs :=
 Paired.zmh r fun _ _ z=>⟨z.1,ht _ _ z.2.1,z.2.2⟩
section
variable {P:Program}{w:World}{H:Hp}{h:Heap}{a:Addr}
theorem zlR {u:HO}(ok:QC P w H h)(e:Rd H a u):xO P w H h a u:=e.ok ok
theorem zg3 {kvs:List (Key×V)}(ok:QC P w H h)(e:Rd H a (.dK kvs)):kvs.length<=sizeLine/\(a==sysModules)=false/\∃vs,KV kvs vs/\h.DictOf (yd P w) a vs :=
 show xO P w H h a (.dK kvs) from zlR ok e
theorem zg4 {kvs:List (Key×V)}(ok:QC P w H h)(e:H a=some (.dK kvs)):kvs.length<=sizeLine/\(a==sysModules)=false/\∃vs,KV kvs vs/\h.DictOf (yd P w) a vs:=zg3 ok (.inl e)
theorem zdc {ks:List Key}(ok:QC P w H h)(e:H a=some (.tup (ks.map kV))):(tupleKind (yd P w)).is h ks a:=by
 obtain⟨_,its,r,o,h1,h2,n,h3⟩:=(show xO P w H h a (.tup (ks.map kV)) from ok a _ e)
 exact⟨o,its.toArray,n,h1,h2,h3,by simpa using zcg r⟩
theorem zg5 {kvs:List (List Key×V)}(ok:QC P w H h)(e:Rd H a (.dT kvs)):kvs.length<=sizeLine/\(a==sysModules)=false /\
  ∃xs,KT H kvs xs/\h.DictOfH (tupleKind (yd P w)) a xs:=by
 obtain⟨z,y,xs,r,o,es,ep,h1,h2,h3,h4,h5⟩:=(show xO P w H h a (.dT kvs) from zlR ok e)
 refine⟨z,y,xs,r,o,es,ep,h1,h2,h3,h4,fun x hx=>?_,h5⟩
 have all:∀{l:List (List Key×V)} {m:List (List Key×Addr×Value)},KT H l m->∀x∈m,(tupleKind (yd P w)).is h x.1 x.2.1:=by
  intro l m q
  induction q with
  | nil=>intro x hx;exact nomatch hx
  | @cons p q ps qs hq t ih =>
   intro x hx
   rcases List.mem_cons.mp hx with e | hx
   ·subst e
    exact zdc ok (by rw[<-hq.1];exact hq.2.1)
   ·exact ih x hx
 exact all r x hx
theorem znT {kvs:List (List Key×V)}(ok:QC P w H h)(e:H a=some (.dT kvs)):kvs.length<=sizeLine/\(a==sysModules)=false /\
  ∃xs,KT H kvs xs/\h.DictOfH (tupleKind (yd P w)) a xs:=zg5 ok (.inl e)
end
def Jx (H:Hp)(a:Addr)(y:V)(r:Option V):Prop :=
 (∃kvs k,Rd H a (.dK kvs)/\y=kV k/\r=Zx kvs k)\/∃kvs k b,Rd H a (.dT kvs)/\y=.ref b/\H b=some (.tup (k.map kV))/\r=Zx kvs k
def zhR (H:Hp)(a:Addr)(y v:V)(H':Hp):Prop :=
 (∃kvs k,H a=some (.dK kvs)/\y=kV k/\kvs.length<sizeLine/\H'=upd H a (.dK (putK kvs k v))) \/
 ∃kvs k b,H a=some (.dT kvs)/\y=.ref b/\H b=some (.tup (k.map kV))/\kvs.length<sizeLine/\H'=upd H a (.dT (putK kvs k v))
theorem Jx.k {H:Hp}{a:Addr}{kvs:List (Key×V)}{k:Key}(e:H a=some (.dK kvs)):Jx H a (kV k) (Zx kvs k):=.inl ⟨kvs,k,.inl e,rfl,rfl⟩
theorem zhR.k {H:Hp}{a:Addr}{kvs:List (Key×V)}{k:Key}{v:V}(e:H a=some (.dK kvs))(hl:kvs.length<sizeLine):zhR H a (kV k) v (upd H a (.dK (putK kvs k v))):=.inl ⟨kvs,k,e,rfl,hl,rfl⟩
section
variable {X:Cx}{pins:List (Addr×Obj)}{σ:St}{H:Hp}{s:Shared}{a:Addr}{y v:V}{u r:Value}{o:Option V}{A:Around}{E:Value->Shared->Prop}
theorem Inv.big (I:Inv X pins σ H s):sysModules<s.heap.objs.size:=by
 have h:mainGlobals<s.heap.objs.size:=(I.mod.glob.keeps I.bk).lt
 exact Nat.lt_trans (by decide) h
theorem zhS {Q:Value->Shared->Prop}(hu:A.units+1<cLine)(I:Inv X pins σ H s)(g:Jx H a y (some v))(ry:RelV y u)(h:∀w' s',Inv X pins σ H s'->RelV v w'->Q w' s') :
  wpAny (model X.prog X.w) A (getItem (.ref a) u) Q E s:=by
 rcases g with ⟨kvs,k,e,ey,l⟩ | ⟨kvs,k,b,e,ey,eb,l⟩
 ·subst ey
  obtain⟨z,hd,vs,rel,dd⟩:=zg3 I.hok e
  obtain⟨w',hw,rw'⟩:=T9.some_of (v:=v) (o:=valueAt vs k) (by rw[l];exact rel.val k)
  exact wpAny_getItem_of (zaC ry) dd.mapOf hw (h w' _ (I.tok _) rw')
 ·subst ey
  cases (show u=Value.ref b from ry)
  obtain⟨z,hd,xs,rel,dd⟩:=zg5 I.hok e
  obtain⟨w',hw,rw'⟩:=T9.some_of (v:=v) (o:=(atKey xs k).map (·.2)) (by rw[l];exact rel.val k)
  obtain⟨p,hp,hp2⟩:=Option.map_eq_some_iff.mp hw
  refine wpAny_getItem_heap (tupleKind_room_in1 hu) (zdc I.hok eb) dd hp ?_
  rw[hp2]
  exact h w' _ (I.tok _) rw'
theorem zkW {Q:Value->Shared->Prop}(hu:A.units+1<cLine)(I:Inv X pins σ H s)(g:Jx H a y o)(ry:RelV y u)(h:∀s',Inv X pins σ H s'->Q (.bool (!o.isSome)) s') :
  wpAny (model X.prog X.w) A (compareOp .NotIn u (.ref a)) Q E s:=by
 rcases g with ⟨kvs,k,e,ey,l⟩ | ⟨kvs,k,b,e,ey,eb,l⟩
 ·subst ey
  obtain⟨z,hd,vs,rel,dd⟩:=zg3 I.hok e
  refine wpAny_notIn_of (zaC ry) hd dd.mapOf ?_
  rw[<-(rel.val k).Qk,<-l]
  exact h _ (I.tok _)
 ·subst ey
  cases (show u=Value.ref b from ry)
  obtain⟨z,hd,xs,rel,dd⟩:=zg5 I.hok e
  refine wpAny_notIn_heap (tupleKind_room_in1 hu) (zdc I.hok eb) hd dd ?_
  have q:=(rel.val k).Qk
  rw[Option.isSome_map] at q
  rw[<-q,<-l]
  exact h _ (I.tok _)
theorem Mp {h':Heap}{t':Nat}{ob:HO}(I:Inv X pins σ H s)(mu:Mut (H a))(hs:Heap.SameBut a s.heap h')(he:∃q,h'.get? a=some q)(new:xO X.prog X.w (upd H a ob) h' a ob) :
  Inv X pins σ (upd H a ob) { s with heap:=h',toks:=t' } :=
 I.write (x:=a) (e:=a) mu (.inl rfl) (fun b q hb z=>(hs.2 b hb).trans z) he new
theorem zdd {P:Program}{w:World}{H':Hp}{h':Heap}{kvs:List (Key×V)}{vs:List (Key×Value)}(z:kvs.length<=sizeLine)(hd:(a==sysModules)=false)(rel:KV kvs vs)(dd:h'.DictOf (yd P w) a vs) :
  xO P w H' h' a (.dK kvs):=⟨z,hd,vs,rel,dd⟩
theorem zhT {H':Hp}{Q:Unit->Shared->Prop}(hu:A.units+1<cLine)(I:Inv X pins σ H s)(g:zhR H a y v H')(ry:RelV y u)(rv:RelV v r)(h:∀s',Inv X pins σ H' s'->Q () s') :
  wpAny (model X.prog X.w) A (setItem (.ref a) u r) Q E s:=by
 rcases g with ⟨kvs,k,e,ey,l,eH⟩ | ⟨kvs,k,b,e,ey,eb,l,eH⟩
 ·subst ey eH
  obtain⟨z,hd,vs,rel,dd⟩:=zg4 I.hok e
  have hz:vs.length<=sizeLine:=by rw[<-rel.length];exact z
  have hl:(putK kvs k v).length<=sizeLine:=by have:=Vb kvs k v;omega
  refine wpAny_setItem_pairs (hsz:=hz) (zaC ry) dd fun h' dd' hs=>h _ ?_
  have he:∃q,h'.get? a=some q:=let ⟨q,_,_,hq,_⟩:=dd';⟨q,hq⟩
  exact Mp I (by rw[e];exact True.intro) hs he (zdd hl hd (rel.put k rv) dd')
 ·subst ey eH
  cases (show u=Value.ref b from ry)
  obtain⟨z,hd,xs,rel,dd⟩:=znT I.hok e
  have hz:xs.length<=sizeLine:=by rw[<-Paired.length rel];exact z
  have hl:(putK kvs k v).length<=sizeLine:=by have:=Vb kvs k v;omega
  refine wpAny_setItem_heap (hsz:=hz) (tupleKind_room_in1 hu) (zdc I.hok eb) dd fun h' dd' hs=>h _ ?_
  obtain⟨q,es,ep,hq,h2,h3,h4,_,h5⟩:=dd'
  refine Mp I (by rw[e];exact True.intro) hs ⟨q,hq⟩ ⟨hl,hd,_,(rel.put k eb rv).keeps fun c ys ec=>?_,q,es,ep,hq,h2,h3,h4,h5⟩
  rw[zB (Sd ec e (fun z=>nomatch z))]
  exact ec
end
section
variable {X:Cx}{pins:List (Addr×Obj)}{σ:St}{H:Hp}{s:Shared}{a:Addr}{kvs:List (Key×V)}{k:Key}{u:Value}{A:Around}{E:Value->Shared->Prop}
theorem zm9 {Q:Unit->Shared->Prop}(I:Inv X pins σ H s)(e:H a=some (.dK kvs))(ry:RelV (kV k) u)(l:(Zx kvs k).isSome=true)(h:∀s',Inv X pins σ (upd H a (.dK (Jb kvs k))) s'->Q () s') :
  wpAny (model X.prog X.w) A (delItem (.ref a) u) Q E s:=by
 obtain⟨z,hd,vs,rel,dd⟩:=zg4 I.hok e
 refine wpAny_delItem_slot dd.typeIs (by decide) PySem.F.slot_dict_delitem
  (call_meetsIn PySem.F.slot_dict_delitem dd.typeIs PySem.F.entry_dict_delitem (PySem.F.args_dict_delitem_2 _ _) (meets_dict_delitem_pairs (yd X.prog X.w) a (zaC ry)) ⟨vs,dd,by rw[<-rel.length];exact z,by rw[<-(rel.val k).Qk];exact l,fun h' dd' hs=>h _ ?_⟩)
 have he:∃q,h'.get? a=some q:=let ⟨q,_,_,hq,_⟩:=dd';⟨q,hq⟩
 exact Mp I (by rw[e];exact True.intro) hs he (zdd (ztO (zen kvs k) z) hd (rel.drop k) dd')
theorem znU {v:V}{more:List Value}{Q:Value->Shared->Prop}(I:Inv X pins σ H s)(e:H a=some (.dK kvs))(ry:RelV (kV k) u)(l:Zx kvs k=some v)(hm:more=[]\/∃x,more=[x])
  (h:∀w' s',Inv X pins σ (upd H a (.dK (Jb kvs k))) s'->RelV v w'->Q w' s'):wpAny (model X.prog X.w) A (call (.builtin "dict.pop") (.ref a::u::more)) Q E s:=by
 obtain⟨z,hd,vs,rel,dd⟩:=zg4 I.hok e
 obtain⟨w',hw,rw'⟩:=T9.some_of (v:=v) (o:=valueAt vs k) (by rw[<-l];exact rel.val k)
 have hp:(keyPart u).isSome=true:=by
  cases k with
  | inl i=>obtain⟨t,q⟩:=(show ∃t,u=Value.int i t from ry);subst q;rfl
  | inr x=>obtain⟨t,q⟩:=(show ∃t,u=Value.str x t from ry);subst q;rfl
 have ha:argsOk "dict.pop" ⟨.ref a::u::more,[]⟩:=by
  rcases hm with q | ⟨x,q⟩
  ·subst q;exact PySem.F.args_dict_pop_2 _ _
  ·subst q;exact PySem.F.args_dict_pop_3 _ _ _
 refine call_meetsIn PySem.F.slot_dict_pop dd.typeIs PySem.F.entry_dict_pop ha (meets_dict_pop_there (yd X.prog X.w) a (zaC ry) more hm hp)
  ⟨vs,w',dd,by rw[<-rel.length];exact z,hw,fun h' dd' hs=>h w' _ ?_ rw'⟩
 have he:∃q,h'.get? a=some q:=let ⟨q,_,_,hq,_⟩:=dd';⟨q,hq⟩
 exact Mp I (by rw[e];exact True.intro) hs he (zdd (ztO (zen kvs k) z) hd (rel.drop k) dd')
end
def znV (i:Expr):Prop:=∀ov iv,subscripted i false ov iv=operate [ov,iv] (getItem ov iv)
theorem zkX {prog:Program}{w:World}{A:Around}{E:Value->Shared->Prop}{s:Shared}{env:Env}{value slice:Expr}{pos:Pos}{T id:String}{Q:Value->Shared->Prop}
  (hl:typeLookup (.type T) "__getitem__"=pure (some (.builtin id)))(hs:znV slice)
  (h:wpAny (model prog w) A (eval value env) (fun o s₁=>wpAny (model prog w) A (eval slice env) (fun i s₂=>s₂.TypeIs o T/\wpAny (model prog w) A (getItem o i) Q E s₂) E s₁) E s) :
  wpAny (model prog w) A (eval (.Subscript value slice pos) env) Q E s:=by
 refine Subscript_ (wpAny_mono h (fun o s₁ h₁=>wpAny_mono h₁ (fun i s₂ h₂=>?_) fun _ _ x=>x) fun _ _ x=>x)
 obtain⟨hT,h₂⟩:=h₂
 unfold subscriptTail
 refine wpAny_bind ?_
 rw[getitemInPython_of_ne hT.not_modules]
 refine wpAny_bind (wpAny_specialOf hT hl ?_)
 have fin:wpAny (model prog w) A (subscripted slice false o i) (fun r s₃=>wpAny (model prog w) A (letTemporaryGo value o r>>=fun _=>pure r) Q E s₃) E s₂:=by
  rw[hs o i]
  exact wpAny_operating (wpAny_mono h₂ (fun r s₃ h₃=>wpAny_bind (wpAny_letTemporaryGo (wpAny_pure h₃))) fun _ _ x=>x)
 first
  | exact wpAny_pure (wpAny_bind fin)
  | exact wpAny_bind (wpAny_pure (wpAny_bind fin))
  | exact wpAny_bind fin
theorem zeo {X:Cx}{pins:List (Addr×Obj)}{σ:St}{H:Hp}{s:Shared}{a:Addr}{y:V}{o:Option V}(I:Inv X pins σ H s)(g:Jx H a y o):s.TypeIs (.ref a) "dict" := by
 rcases g with ⟨kvs,k,e,_,_⟩ | ⟨kvs,k,b,e,_,_,_⟩
 ·obtain⟨_,_,vs,_,dd⟩:=zg3 I.hok e
  exact dd.typeIs
 ·obtain⟨_,_,xs,_,dd⟩:=zg5 I.hok e
  exact dd.typeIs
def znW (td ty:TE):TE:=fun σ H Q=>td σ H fun x H1=>ty σ H1 fun y H2=>∃a v,x=.ref a/\Jx H2 a y (some v)/\Q v H2
def zkY (ty td:TE):TE:=fun σ H Q=>ty σ H fun y H1=>td σ H1 fun x H2=>∃a o,x=.ref a/\Jx H2 a y o/\Q (.bl (!o.isSome)) H2
def znX (td ty tv:TE):TS:=fun D σ H=>tv σ H fun v H1=>td σ H1 fun x H2=>ty σ H2 fun y H3=>∃a H4,x=.ref a/\zhR H3 a y v H4/\D.nx σ H4
section
variable {X:Cx}{o i e value:Expr}{pos pos' tpos:Pos}{td ty tv:TE}
theorem zde (hu:X.A.units+1<cLine)(ho:PE X o td)(hi:PE X i ty)(hs:znV i):PE X (.Subscript o i pos) (znW td ty):=by
 intro pins s σ H Q I h
 refine zkX PySem.F.slot_dict_getitem.lookup hs (wM (ho pins s σ H _ I h) fun u s1 ⟨x,H1,I1,rx,q1⟩=>wM (hi pins s1 σ H1 _ I1 q1) fun iv s2 ⟨y,H2,I2,ry,a,v,ex,g,q2⟩=>?_)
 subst ex
 obtain rfl:u=Value.ref a:=rx
 exact⟨zeo I2 g,zhS hu I2 g ry fun w' s3 I3 rw'=>⟨v,H2,I3,rw',q2⟩⟩
theorem zhU (hu:X.A.units+1<cLine)(hi:PE X i ty)(ho:PE X o td):PC X .NotIn i o (zkY ty td):=by
 intro pins s σ H Q I h
 refine wM (hi pins s σ H _ I h) fun iv s1 ⟨y,H1,I1,ry,q1⟩=>wM (ho pins s1 σ H1 _ I1 q1) fun u s2 ⟨x,H2,I2,rx,a,ov,ex,g,q2⟩=>?_
 subst ex
 obtain rfl:u=Value.ref a:=rx
 exact zkW hu I2 g ry fun s3 I3=>⟨.bl (!ov.isSome),H2,I3,rfl,q2⟩
theorem zg6 (hu:X.A.units+1<cLine)(ho:PE X o td)(hi:PE X i ty)(hv:PE X value tv)(hs:swapsWith value (some (.Subscript o i pos')) pos.line X.env=pure false) :
  PS X (.Assign [.Subscript o i pos'] value pos) (znX td ty tv):=by
 intro pins s σ H D I h
 refine wpAny_Assign_Subscript (wM (hv pins s σ H _ I h) fun r s1 ⟨v,H1,I1,rv,q1⟩=>wM (ho pins s1 σ H1 _ I1 q1) fun u s2 ⟨x,H2,I2,rx,q2⟩=>wM (hi pins s2 σ H2 _ I2 q2) fun iv s3 ⟨y,H3,I3,ry,a,H4,ex,g,q3⟩=>?_) hs
 subst ex
 obtain rfl:u=Value.ref a:=rx
 exact zhT hu I3 g ry rv fun s4 I4=>⟨σ,H4,I4,q3⟩
end
theorem zep {P:Program}{w:World}{H:Hp}(h:Heap)(hb:sysModules<h.objs.size):xO P w H (h.push { cls:=.type "dict", data:=.dict #[] }) h.objs.size (.dK []) :=
 ⟨ztP _,beq_eq_false_iff_ne.mpr (Ne.symm (ztH hb)),[],.nil,Heap.DictOf.new h⟩
def zmM:TE:=fun _ H Q=>∀p,H p=none->Q (.ref p) (upd H p (.dK []))
section
variable {X:Cx}{pos:Pos}
theorem zjj:PE X (.Dict [] [] pos) zmM:=fun pins s σ H Q I h =>
 wpAny_Dict_empty ⟨.ref s.heap.objs.size,_,I.laid (a:=s.heap.objs.size) (o:=.dK []) (t':=s.toks) (fun _ _ q=>zty _ q) (ztI _) (zep s.heap I.big),rfl,h _ (I.hok.fresh (ztI _))⟩
end
def zfS:List (TE×TE)->St->Hp->(List (V×V)->Hp->Prop)->Prop
 | [],_,H,Q=>Q [] H
 | (tk,tv)::r,σ,H,Q=>tk σ H fun x H1=>tv σ H1 fun y H2=>zfS r σ H2 fun ps H3=>Q ((x,y)::ps) H3
abbrev VV:List (V×V)->List (Value×Value)->Prop:=Paired fun p q=>RelV p.1 q.1/\RelV p.2 q.2
def PPs (X:Cx)(pos:Pos)(keys:List (Option Expr))(values:List Expr)(trs:List (TE×TE)):Prop :=
 ∀(pins:List (Addr×Obj)) (s:Shared) (σ:St) (H:Hp) (Q:List (V×V)->Hp->Prop),Inv X pins σ H s->zfS trs σ H Q ->
  wpAny (model X.prog X.w) X.A (evalPairs (pairTrees keys values X.env pos)) (fun vs s'=>∃ps H',Inv X pins σ H' s'/\VV ps vs/\Q ps H') X.xe s
theorem zg7 {X:Cx}{pos:Pos}:PPs X pos [] [] []:=fun pins s σ H Q I h=>pairTrees_nil_walk ⟨[],H,I,.nil,h⟩
theorem V5 {X:Cx}{pos:Pos}{k v:Expr}{ks:List (Option Expr)}{vs:List Expr}{tk tv:TE}{trs:List (TE×TE)}(hk:PE X k tk)(hv:PE X v tv)(hr:PPs X pos ks vs trs) :
  PPs X pos (some k::ks) (v::vs) ((tk,tv)::trs):=fun pins s σ H Q I h =>
 pairTrees_cons_walk (wM (hk pins s σ H _ I h) fun u s1 ⟨x,H1,I1,rx,q1⟩=>wM (hv pins s1 σ H1 _ I1 q1) fun w2 s2 ⟨y,H2,I2,ry,q2⟩ =>
  wM (hr pins s2 σ H2 _ I2 q2) fun ws s3 ⟨ps,H3,I3,rel,q3⟩=>⟨(x,y)::ps,H3,I3,.cons ⟨rx,ry⟩ rel,q3⟩)
def Yo (kvs more:List (Key×V)):List (Key×V):=more.foldl (fun acc kv=>putK acc kv.1 kv.2) kvs
theorem KV.merge:∀{more:List (Key×V)} {rs:List (Key×Value)} {kvs:List (Key×V)} {vs:List (Key×Value)},KV more rs->KV kvs vs->KV (Yo kvs more) (merged vs rs):=by
 intro more rs kvs vs r
 unfold KV at r
 induction r generalizing kvs vs with
 | nil=>intro q;exact q
 | @cons p q ps qs h t ih =>
  intro r0
  have e:KV (putK kvs p.1 p.2) (stored vs q.1 q.2):=by
   have:=r0.put p.1 h.2
   rw[<-h.1];exact this
  exact ih e
theorem QS:∀(more kvs:List (Key×V)),(Yo kvs more).length<=kvs.length+more.length
 | [],kvs=>by show kvs.length<=kvs.length+0;omega
 | p::r,kvs=>by
  have h1:=QS r (putK kvs p.1 p.2)
  have h2:=Vb kvs p.1 p.2
  show(Yo (putK kvs p.1 p.2) r).length<=_
  rw[ztE];omega
theorem zaD {P:Program}{w:World}:∀{kvs:List (Key×V)} {ws:List (Value×Value)},VV (kvs.map fun kv=>(kV kv.1,kv.2)) ws->∃rs,Carries (yd P w) ws rs/\KV kvs rs
 | [],_,r=>by rw[List.map_nil] at r;cases r;exact⟨[],True.intro,.nil⟩
 | p::kvs,_,r=>by
  rw[ztR] at r
  cases r with
  | @cons a b as bs h t =>
   obtain⟨rs,c,q⟩:=zaD (P:=P) (w:=w) t
   obtain⟨b1,b2⟩:=b
   exact⟨(p.1,b2)::rs,⟨zaC h.1,rfl,c⟩,.cons ⟨rfl,h.2⟩ q⟩
def znY (trs:List (TE×TE)):TE:=fun σ H Q=>∀p,H p=none->zfS trs σ (upd H p (.dK [])) fun ps H2=>H2 p=some (.dK [])/\∃kvs:List (Key×V),ps=kvs.map (fun kv=>(kV kv.1,kv.2))/\kvs.length<=15/\Q (.ref p) (upd H2 p (.dK (Yo [] kvs)))
theorem zg8 {X:Cx}{pos:Pos}{keys:List (Option Expr)}{values:List Expr}{trs:List (TE×TE)}(h:PPs X pos keys values trs)(hall:keys.all (·.isSome)=true)(hl:keys.length=values.length)(h0:keys≠[])
  (h15:keys.length<=15):PE X (.Dict keys values pos) (znY trs):=by
 intro pins s σ H Q I q
 have hn:=I.hok.fresh (ztI s.heap.objs.size)
 have I1:=I.laid (a:=s.heap.objs.size) (o:=.dK []) (h':=s.heap.push { cls:=.type "dict", data:=.dict #[] }) (t':=s.toks) (fun _ _ q=>zty _ q) (ztI _) (zep s.heap I.big)
 refine wpAny_Dict_walk (knd:=yd X.prog X.w) hall hl h0 h15 (wM (h pins _ σ _ _ I1 (q _ hn)) fun ws s2 ⟨ps,H2,I2,rel,e,kvs,ep,lk,q2⟩=>?_)
 subst ep
 obtain⟨rs,c,rk⟩:=zaD (P:=X.prog) (w:=X.w) rel
 obtain⟨z,hd,vs0,r0,dd⟩:=zg4 I2.hok e
 cases r0
 refine⟨rs,c,dd,fun h' dd' hs=>⟨.ref s.heap.objs.size,_,?_,rfl,q2⟩⟩
 have hz:(Yo [] kvs).length<=sizeLine:=by
  have h1:=QS kvs []
  rw[List.length_nil] at h1
  rw[sizeLine_eq];omega
 have he:∃q,h'.get? s.heap.objs.size=some q:=let ⟨q,_,_,hq,_⟩:=dd';⟨q,hq⟩
 exact Mp I2 (by rw[e];exact True.intro) hs he (zdd hz hd (rk.merge .nil) dd')
inductive S6 (K:Frag)(H:Hp):Nat->V->V->Bool->Prop
 | flat {n:Nat} {x y:V} (fx:xX x=true) (fy:xX y=true):S6 K H n x y (eqV x y)
 | tt {n:Nat} {p q:Addr} {xs ys:List V} {e:Nat->Bool} (hp:wG K H p xs) (hq:wG K H q ys) (h:∀(j:Nat) x y,xs[j]?=some x->ys[j]?=some y->S6 K H n x y (e j)) :
   S6 K H (n+1) (.ref p) (.ref q) ((List.range (min xs.length ys.length)).all e&&xs.length==ys.length)
 | ll {n:Nat} {p q:Addr} {xs ys:List V} {e:Nat->Bool} (hp:zP K H p xs) (hq:zP K H q ys) (hl:xs.length=ys.length) (h:∀(j:Nat) x y,xs[j]?=some x->ys[j]?=some y->S6 K H n x y (e j)) :
   S6 K H (n+1) (.ref p) (.ref q) ((List.range xs.length).all e)
 | ln {n:Nat} {p q:Addr} {xs ys:List V} (hp:zP K H p xs) (hq:zP K H q ys) (hl:xs.length≠ys.length):S6 K H (n+1) (.ref p) (.ref q) false
 | lt {n:Nat} {p q:Addr} {xs ys:List V} (hp:zP K H p xs) (hq:wG K H q ys):S6 K H (n+1) (.ref p) (.ref q) false
 | tl {n:Nat} {p q:Addr} {xs ys:List V} (hp:wG K H p xs) (hq:zP K H q ys):S6 K H (n+1) (.ref p) (.ref q) false
 | lf {n:Nat} {p:Addr} {xs:List V} {y:V} (hp:zP K H p xs) (fy:xX y=true):S6 K H (n+1) (.ref p) y false
 | fl {n:Nat} {p:Addr} {xs:List V} {y:V} (hp:zP K H p xs) (fy:xX y=true):S6 K H (n+1) y (.ref p) false
 | tf {n:Nat} {p:Addr} {xs:List V} {y:V} (hp:wG K H p xs) (fy:xX y=true):S6 K H (n+1) (.ref p) y false
 | ft {n:Nat} {p:Addr} {xs:List V} {y:V} (hp:wG K H p xs) (fy:xX y=true):S6 K H (n+1) y (.ref p) false
section
variable {X:Cx}{pins:List (Addr×Obj)}{σ:St}{H:Hp}{s:Shared}
theorem Mq {x:V}(f:xX x=true):eqV x x=true:=by
 cases x<;>first | rfl | (simp[eqV];done) | exact absurd (show false=true from f) ztw
theorem S7 (I:Inv X pins σ H s){p:Addr}{xs ys:List V}(h:zP X.K H p xs)(k:wG X.K H p ys):False:=by
 obtain⟨_,_,⟨o,n,e,c,_⟩,_⟩:=I.list h
 obtain⟨_,_,⟨o',e',c',_⟩,_⟩:=I.tuple k
 rw[e] at e'
 cases e'
 rw[c] at c'
 injection c' with z
 exact absurd z (by decide)
theorem S6.refl (I:Inv X pins σ H s){n:Nat}{x y:V}{b:Bool}(h:S6 X.K H n x y b):x=y->b=true:=by
 induction h with
 | flat fx fy=>intro e;subst e;exact Mq fx
 | tt hp hq h ih =>
  intro e
  cases e
  have ee:=I.zbW hp hq
  subst ee
  rw[Nat.min_self,beq_self_eq_true,Bool.and_true,ztW]
  intro j hj
  have hj':=List.mem_range.mp hj
  exact ih j _ _ (ztt hj') (ztt hj') rfl
 | ll hp hq hl h ih =>
  intro e
  cases e
  have ee:=I.Wf hp hq
  subst ee
  rw[ztW]
  intro j hj
  have hj':=List.mem_range.mp hj
  exact ih j _ _ (ztt hj') (ztt hj') rfl
 | ln hp hq hl =>
  intro e
  cases e
  exact absurd (congrArg List.length (I.Wf hp hq)) hl
 | lt hp hq=>intro e;cases e;exact(S7 I hp hq).elim
 | tl hp hq=>intro e;cases e;exact(S7 I hq hp).elim
 | lf hp fy=>intro e;subst e;exact absurd (show false=true from fy) ztw
 | fl hp fy=>intro e;subst e;exact absurd (show false=true from fy) ztw
 | tf hp fy=>intro e;subst e;exact absurd (show false=true from fy) ztw
 | ft hp fy=>intro e;subst e;exact absurd (show false=true from fy) ztw
theorem Ql {A:Around}{u:Value}{y:V}{p:Addr}{its:Array Value}(hl:s.heap.IsList p its)(fy:xX y=true)(ry:RelV y u)(hu:A.units<cLine):SeqAt.RcAt A s (.ref p) u false/\SeqAt.EqAt A s (.ref p) u false/\SeqAt.RcAt A s u (.ref p) false/\SeqAt.EqAt A s u (.ref p) false/\SeqAt.RcNeAt A s (.ref p) u true/\SeqAt.RcNeAt A s u (.ref p) true:=by
 cases y with
 | non=>cases ry;exact⟨.list_none hl hu,.list_none hl hu,.none_list hl hu,.none_list hl hu,.list_none hl hu,.none_list hl hu⟩
 | bl b=>cases ry;exact⟨.list_bool b hl hu,.list_bool b hl hu,.bool_list b hl hu,.bool_list b hl hu,.list_bool b hl hu,.bool_list b hl hu⟩
 | int i=>obtain⟨t,rfl⟩:=ry;exact⟨.list_int i t hl hu,.list_int i t hl hu,.int_list i t hl hu,.int_list i t hl hu,.list_int i t hl hu,.int_list i t hl hu⟩
 | str i=>obtain⟨t,rfl⟩:=ry;exact⟨.list_str i t hl hu,.list_str i t hl hu,.str_list i t hl hu,.str_list i t hl hu,.list_str i t hl hu,.str_list i t hl hu⟩
 | _=>exact absurd (show false=true from fy) ztw
theorem UL {A:Around}{u:Value}{y:V}{p:Addr}{its:Array Value}(hl:s.heap.IsTuple p its)(fy:xX y=true)(ry:RelV y u)(hu:A.units<cLine):SeqAt.RcAt A s (.ref p) u false/\SeqAt.EqAt A s (.ref p) u false/\SeqAt.RcAt A s u (.ref p) false/\SeqAt.EqAt A s u (.ref p) false/\SeqAt.RcNeAt A s (.ref p) u true/\SeqAt.RcNeAt A s u (.ref p) true:=by
 cases y with
 | non=>cases ry;exact⟨.tuple_none hl hu,.tuple_none hl hu,.none_tuple hl hu,.none_tuple hl hu,.tuple_none hl hu,.none_tuple hl hu⟩
 | bl b=>cases ry;exact⟨.tuple_bool b hl hu,.tuple_bool b hl hu,.bool_tuple b hl hu,.bool_tuple b hl hu,.tuple_bool b hl hu,.bool_tuple b hl hu⟩
 | int i=>obtain⟨t,rfl⟩:=ry;exact⟨.tuple_int i t hl hu,.tuple_int i t hl hu,.int_tuple i t hl hu,.int_tuple i t hl hu,.tuple_int i t hl hu,.int_tuple i t hl hu⟩
 | str i=>obtain⟨t,rfl⟩:=ry;exact⟨.tuple_str i t hl hu,.tuple_str i t hl hu,.str_tuple i t hl hu,.str_tuple i t hl hu,.tuple_str i t hl hu,.str_tuple i t hl hu⟩
 | _=>exact absurd (show false=true from fy) ztw
theorem item_at {xs:List V}{us:List Value}(r:Vals xs us){j:Nat}(h:j<us.toArray.size):∃x,xs[j]?=some x/\RelV x us.toArray[j]:=by
 have hl:=r.length
 have hj:j<xs.length:=by simp at h;omega
 obtain⟨u,hu,ru⟩:=r.get (ztt hj)
 refine⟨xs[j],ztt hj,?_⟩
 have e:us.toArray[j]=u:=by
  have:=(ztv.mp hu).2
  simpa using this
 rw[e];exact ru
theorem S6.at {n:Nat}{x y:V}{b:Bool}(h:S6 X.K H n x y b)(I:Inv X pins σ H s):∀{A:Around} {u v:Value},RelV x u->RelV y v->A.units+n<cLine->SeqAt.EqAt A s u v b:=by
 induction h with
 | flat fx fy=>intro A u v rx ry _;exact ziM rx ry fx fy
 | @tt n p q xs ys e hp hq h ih =>
  intro A u v rx ry hu
  cases rx
  cases ry
  obtain⟨us,r1,t1,_⟩:=I.tuple hp
  obtain⟨ws,r2,t2,_⟩:=I.tuple hq
  have l1:=r1.length
  have l2:=r2.length
  by_cases hne:p=q
  ·subst hne
   have z:=(S6.tt hp hq h).refl I rfl
   rw[z]
   exact SeqAt.EqAt.same _
  ·refine SeqAt.EqAt.of_refs hne ?_
   have z:=SeqAt.RcAt.tuples (A:=A) (e:=e) t1 t2 (by omega) fun j h1 h2=>by
    obtain⟨x,hx,rx⟩:=item_at r1 h1
    obtain⟨y,hy,ry⟩:=item_at r2 h2
    exact ih j x y hx hy rx ry (by show A.units+1+n<cLine;omega)
   rw[ztC,ztC,<-l1,<-l2] at z
   exact z
 | @ll n p q xs ys e hp hq hl h ih =>
  intro A u v rx ry hu
  cases rx
  cases ry
  obtain⟨us,r1,t1,_⟩:=I.list hp
  obtain⟨ws,r2,t2,_⟩:=I.list hq
  have l1:=r1.length
  have l2:=r2.length
  by_cases hne:p=q
  ·subst hne
   have z:=(S6.ll hp hq hl h).refl I rfl
   rw[z]
   exact SeqAt.EqAt.same _
  ·refine SeqAt.EqAt.of_refs hne ?_
   have z:=SeqAt.RcAt.lists (A:=A) (e:=e) t1.isList t2.isList (by simp;omega) (by omega) fun j h1 h2=>by
    obtain⟨x,hx,rx⟩:=item_at r1 h1
    obtain⟨y,hy,ry⟩:=item_at r2 h2
    exact ih j x y hx hy rx ry (by show A.units+1+n<cLine;omega)
   rw[ztC,<-l1] at z
   exact z
 | @ln n p q xs ys hp hq hl =>
  intro A u v rx ry hu
  cases rx
  cases ry
  obtain⟨us,r1,t1,_⟩:=I.list hp
  obtain⟨ws,r2,t2,_⟩:=I.list hq
  have l1:=r1.length
  have l2:=r2.length
  have hne:p≠q:=fun e=>by subst e;exact hl (congrArg List.length (I.Wf hp hq))
  exact SeqAt.EqAt.of_refs hne (SeqAt.RcAt.lists_lengths t1.isList t2.isList (by simp;omega) (by omega))
 | lt hp hq =>
  intro A u v rx ry hu
  cases rx
  cases ry
  obtain⟨us,r1,t1,_⟩:=I.list hp
  obtain⟨ws,r2,t2,_⟩:=I.tuple hq
  exact SeqAt.EqAt.list_tuple t1.isList t2 (by omega)
 | tl hp hq =>
  intro A u v rx ry hu
  cases rx
  cases ry
  obtain⟨us,r1,t1,_⟩:=I.tuple hp
  obtain⟨ws,r2,t2,_⟩:=I.list hq
  exact SeqAt.EqAt.tuple_list t1 t2.isList (by omega)
 | lf hp fy =>
  intro A u v rx ry hu
  cases rx
  obtain⟨us,r1,t1,_⟩:=I.list hp
  exact(Ql t1.isList fy ry (by omega)).2.1
 | fl hp fy =>
  intro A u v rx ry hu
  cases ry
  obtain⟨us,r1,t1,_⟩:=I.list hp
  exact(Ql t1.isList fy rx (by omega)).2.2.2.1
 | tf hp fy =>
  intro A u v rx ry hu
  cases rx
  obtain⟨us,r1,t1,_⟩:=I.tuple hp
  exact(UL t1 fy ry (by omega)).2.1
 | ft hp fy =>
  intro A u v rx ry hu
  cases ry
  obtain⟨us,r1,t1,_⟩:=I.tuple hp
  exact(UL t1 fy rx (by omega)).2.2.2.1
theorem S6.rc {n:Nat}{x y:V}{b:Bool}(h:S6 X.K H n x y b)(I:Inv X pins σ H s)(hn:¬(xX x=true/\xX y=true)){A:Around}{u v:Value}(rx:RelV x u)(ry:RelV y v)(hu:A.units+n<cLine):SeqAt.RcAt A s u v b/\SeqAt.RcNeAt A s u v (!b):=by
 cases h with
 | flat fx fy=>exact absurd ⟨fx,fy⟩ hn
 | @tt n p q xs ys e hp hq h =>
  cases rx
  cases ry
  obtain⟨us,r1,t1,_⟩:=I.tuple hp
  obtain⟨ws,r2,t2,_⟩:=I.tuple hq
  have l1:=r1.length
  have l2:=r2.length
  have he:∀j (h1:j<us.toArray.size) (h2:j<ws.toArray.size),SeqAt.EqAt A.in1 s us.toArray[j] ws.toArray[j] (e j):=fun j h1 h2=>by
   obtain⟨x,hx,rx⟩:=item_at r1 h1
   obtain⟨y,hy,ry⟩:=item_at r2 h2
   exact(h j x y hx hy).at I rx ry (by show A.units+1+n<cLine;omega)
  have z:=SeqAt.RcAt.tuples (A:=A) (e:=e) t1 t2 (by omega) he
  have z2:=SeqAt.RcNeAt.tuples (A:=A) (e:=e) t1 t2 (by omega) he
  rw[ztC,ztC,<-l1,<-l2] at z z2
  exact⟨z,z2⟩
 | @ll n p q xs ys e hp hq hl h =>
  cases rx
  cases ry
  obtain⟨us,r1,t1,_⟩:=I.list hp
  obtain⟨ws,r2,t2,_⟩:=I.list hq
  have l1:=r1.length
  have l2:=r2.length
  have he:∀j (h1:j<us.toArray.size) (h2:j<ws.toArray.size),SeqAt.EqAt A.in1 s us.toArray[j] ws.toArray[j] (e j):=fun j h1 h2=>by
   obtain⟨x,hx,rx⟩:=item_at r1 h1
   obtain⟨y,hy,ry⟩:=item_at r2 h2
   exact(h j x y hx hy).at I rx ry (by show A.units+1+n<cLine;omega)
  have z:=SeqAt.RcAt.lists (A:=A) (e:=e) t1.isList t2.isList (by simp;omega) (by omega) he
  have z2:=SeqAt.RcNeAt.lists (A:=A) (e:=e) t1.isList t2.isList (by simp;omega) (by omega) he
  rw[ztC,<-l1] at z z2
  exact⟨z,z2⟩
 | @ln n p q xs ys hp hq hl =>
  cases rx
  cases ry
  obtain⟨us,r1,t1,_⟩:=I.list hp
  obtain⟨ws,r2,t2,_⟩:=I.list hq
  have l1:=r1.length
  have l2:=r2.length
  exact⟨SeqAt.RcAt.lists_lengths t1.isList t2.isList (by simp;omega) (by omega),SeqAt.RcNeAt.lists_lengths t1.isList t2.isList (by simp;omega) (by omega)⟩
 | lt hp hq =>
  cases rx
  cases ry
  obtain⟨us,r1,t1,_⟩:=I.list hp
  obtain⟨ws,r2,t2,_⟩:=I.tuple hq
  exact⟨SeqAt.RcAt.list_tuple t1.isList t2 (by omega),SeqAt.RcNeAt.list_tuple t1.isList t2 (by omega)⟩
 | tl hp hq =>
  cases rx
  cases ry
  obtain⟨us,r1,t1,_⟩:=I.tuple hp
  obtain⟨ws,r2,t2,_⟩:=I.list hq
  exact⟨SeqAt.RcAt.tuple_list t1 t2.isList (by omega),SeqAt.RcNeAt.tuple_list t1 t2.isList (by omega)⟩
 | lf hp fy =>
  cases rx
  obtain⟨us,r1,t1,_⟩:=I.list hp
  have z:=Ql (A:=A) t1.isList fy ry (by omega)
  exact⟨z.1,z.2.2.2.2.1⟩
 | fl hp fy =>
  cases ry
  obtain⟨us,r1,t1,_⟩:=I.list hp
  have z:=Ql (A:=A) t1.isList fy rx (by omega)
  exact⟨z.2.2.1,z.2.2.2.2.2⟩
 | tf hp fy =>
  cases rx
  obtain⟨us,r1,t1,_⟩:=I.tuple hp
  have z:=UL (A:=A) t1 fy ry (by omega)
  exact⟨z.1,z.2.2.2.2.1⟩
 | ft hp fy =>
  cases ry
  obtain⟨us,r1,t1,_⟩:=I.tuple hp
  have z:=UL (A:=A) t1 fy rx (by omega)
  exact⟨z.2.2.1,z.2.2.2.2.2⟩
end
section
variable {X:Cx}
theorem zmN {K:Frag}(hK:X.K=K)(hu:X.A.units+8<cLine):Uq X (compareOp .Eq) (fun x y H Q=>∃b,¬(xX x=true/\xX y=true)/\S6 K H 8 x y b/\Q (.bl b) H):=by
 subst hK
 intro pins s σ H x y v u Q I rx ry h
 obtain⟨b,hn,he,q⟩:=h
 exact(he.rc I hn rx ry hu).1 X.prog X.w X.xe _ ⟨.bl b,H,I,rfl,q⟩
theorem zjk {K:Frag}(hK:X.K=K)(hu:X.A.units+8<cLine):Uq X (compareOp .NotEq) (fun x y H Q=>∃b,¬(xX x=true/\xX y=true)/\S6 K H 8 x y b/\Q (.bl (!b)) H):=by
 subst hK
 intro pins s σ H x y v u Q I rx ry h
 obtain⟨b,hn,he,q⟩:=h
 exact(he.rc I hn rx ry hu).2 X.prog X.w X.xe _ ⟨.bl (!b),H,I,rfl,q⟩
theorem hu8 {A:Around}{k:Nat}(hr:Zh k A):A.units+8<cLine:=by have:=hr.units;omega
theorem zjl {K:Frag}{H:Hp}{x:V}{n:Nat}{e:V->Bool}:∀{xs:List V} {us:List Value},Vals xs us->(∀y∈xs,S6 K H n y x (e y))->∃f:Value->Bool,(∀(i:Nat) y u,xs[i]?=some y->us[i]?=some u->f u=e y)/\us.any f=xs.any e:=by
 intro xs us r h
 refine⟨fun u=>match zbs u with | some y=>e y | none=>false,fun i y u hy hu=>?_,?_⟩
 ·obtain⟨u',hu',ru⟩:=r.get hy
  rw[hu] at hu'
  cases hu'
  show(match zbs u with | some y=>e y | none=>false)=e y
  rw[ru.abs]
 ·clear h
  induction r with
  | nil=>rfl
  | cons r t ih =>
   rw[List.any_cons,List.any_cons,ih]
   congr 1
   show(match zbs _ with | some y=>e y | none=>false)=_
   rw[r.abs]
def zpB (K:Frag)(neg:Bool):R2:=fun x y H Q=>∃(p:Addr) (xs:List V) (e:V->Bool),y=.ref p/\(zP K H p xs\/wG K H p xs)/\(∀z∈xs,S6 K H 8 z x (e z))/\Q (.bl (if neg then !xs.any e else xs.any e)) H
theorem zjm {K:Frag}(hK:X.K=K)(hu:X.A.units+9<cLine):Uq X (compareOp .In) (zpB K false):=by
 subst hK
 intro pins s σ H x y v u Q I rx ry h
 obtain⟨p,xs,e,rfl,hq,he,q⟩:=h
 cases ry
 rcases hq with hq | hq
 ·obtain⟨us,r,pl,hz⟩:=I.list hq
  obtain⟨f,f1,f2⟩:=zjl r he
  refine SeqAt.in_listAt f pl.isList (fun w hw=>?_) ⟨.bl _,H,I,rfl,?_⟩
  ·have hw':w∈us:=by simpa using hw
   obtain⟨i,hi,ew⟩:=zua hw'
   have hx:i<xs.length:=by rw[r.length];exact hi
   have z:=f1 i xs[i] w (ztt hx) (by rw[ztt hi,ew])
   obtain⟨w',hw2,rw'⟩:=r.get (ztt hx)
   rw[ztt hi,ew] at hw2
   cases hw2
   rw[z]
   exact(he _ (zt9 hx)).at I rw' rx (by show X.A.units+1+8<cLine;omega)
  ·rw[show us.toArray.any f=us.any f by simp,f2]
   exact q
 ·obtain⟨us,r,pl,hz⟩:=I.tuple hq
  obtain⟨f,f1,f2⟩:=zjl r he
  refine SeqAt.in_tupleAt f pl (fun w hw=>?_) ⟨.bl _,H,I,rfl,?_⟩
  ·have hw':w∈us:=by simpa using hw
   obtain⟨i,hi,ew⟩:=zua hw'
   have hx:i<xs.length:=by rw[r.length];exact hi
   have z:=f1 i xs[i] w (ztt hx) (by rw[ztt hi,ew])
   obtain⟨w',hw2,rw'⟩:=r.get (ztt hx)
   rw[ztt hi,ew] at hw2
   cases hw2
   rw[z]
   exact(he _ (zt9 hx)).at I rw' rx (by show X.A.units+1+8<cLine;omega)
  ·rw[show us.toArray.any f=us.any f by simp,f2]
   exact q
theorem zaE:∀{xs:List V} {us:List Value},xs.length=us.length->(∀(j:Nat) u,us[j]?=some u->∃x,xs[j]?=some x/\RelV x u)->Vals xs us
 | [],[],_,_=>.nil
 | [],_::_,h,_=>by simp at h
 | _::_,[],h,_=>by simp at h
 | x::xs,u::us,hl,h=>by
  obtain⟨x',e,r⟩:=h 0 u rfl
  cases e
  refine .cons r (zaE (by simpa using hl) fun j v hv=>?_)
  obtain⟨y,e,r⟩:=h (j+1) v (by simpa using hv)
  exact⟨y,by simpa using e,r⟩
theorem S8 (hc:X.calm=true):uW X (.type "list") (fun xs H Q=>∃(p:Addr) (kvs:List (Key×V)),xs=[.ref p]/\H p=some (.dK kvs)/\∀l,H l=none->Q (.ref l) (upd H l (.lst (kvs.map fun e=>kV e.1)))):=by
 intro pins s σ H xs us Q I r h
 obtain⟨p,kvs,rfl,hp,q⟩:=h
 obtain⟨u,rfl,rx⟩:=vals1 r
 cases rx
 obtain⟨hz,lo,vs,rv,hD⟩:=(show kvs.length<=sizeLine/\(p==sysModules)=false/\∃vs,KV kvs vs/\s.heap.DictOf (yd X.prog X.w) p vs from I.hok p _ hp)
 obtain⟨ep,hat⟩:=hD.dictAt
 have hl:kvs.length=vs.length:=Paired.length rv
 refine PySem.W.kdl_call (PySem.W.kdl_dict (knd:=yd X.prog X.w) (kvs:=vs) (ep:=ep) lo) (I.ok.hd hc) hat (by omega) fun h' tk acc c hk hS hacc=>?_
 refine⟨.ref s.heap.objs.size,_,I.laid (o:=.lst (kvs.map fun e=>kV e.1)) hk (ztI _) ?_,rfl,q _ (I.hok.fresh (ztI _))⟩
 refine⟨by rw[zts];exact hz,acc.toList,c,?_,by simpa using hS⟩
 refine zaE (by rw[zts];have:=hacc.1;simp;omega) fun j v hv=>?_
 obtain⟨k,x,hx,hkv⟩:=hacc.2 j v (by rw[<-Array.getElem?_toList];exact hv)
 obtain⟨y,hy,e1,_⟩:=K8 rv hx
 refine⟨kV y.1,by rw[ztu,hy];rfl,?_⟩
 rw[e1]
 rcases xM (k:=k) (v:=v) hkv with ⟨i,t,rfl,rfl⟩ | ⟨z,t,rfl,rfl⟩
 ·exact⟨_,rfl⟩
 ·exact⟨_,rfl⟩
end
end L2
namespace yF
abbrev Rm:=Option (Nat×Nat×Nat)
def Ke (n:Nat)(rs:List Rm)(k:Nat):Nat:=match rs[k]? with
 | some (some (i,_,_))=>i
 | _=>n
structure Bk (n:Nat)(rs:List Rm):Prop where
 h0:rs[0]?=some none
 h1:rs[1]?=some none
 rm:∀k,2<=k->k<rs.length->∃i lo hi,rs[k]?=some (some (i,lo,hi))/\i<n/\lo<k/\hi<k/\lo≠hi/\i<Ke n rs lo/\i<Ke n rs hi
 uq:∀(k l:Nat) (x:Nat×Nat×Nat),rs[k]?=some (some x)->rs[l]?=some (some x)->k=l
abbrev Row:=Nat->Bool
def put (r:Row)(i:Nat)(v:Bool):Row:=fun j=>if j=i then v else r j
def lead (rs:List Rm)(r:Row):Nat->Nat->Nat
 | 0,k=>k
 | f+1,k=>match rs[k]? with
  | some (some (i,lo,hi))=>lead rs r f (if r i then hi else lo)
  | _=>k
theorem zch {n:Nat}{rs:List Rm}(B:Bk n rs)(r:Row):∀(f g k:Nat),k<=f->k<=g->k<rs.length->lead rs r f k=lead rs r g k
 | 0,0,k,_,_,_=>rfl
 | 0,g+1,k,h,_,_=>by
  have e:k=0:=by omega
  subst e
  show 0=lead rs r (g+1) 0
  unfold lead
  rw[B.h0]
 | f+1,0,k,_,h,_=>by
  have e:k=0:=by omega
  subst e
  show lead rs r (f+1) 0=0
  unfold lead
  rw[B.h0]
 | f+1,g+1,k,hf,hg,hk=>by
  by_cases h2:2<=k
  ·obtain⟨i,lo,hi,e,_,hlo,hhi,_⟩:=B.rm k h2 hk
   unfold lead
   rw[e]
   show lead rs r f (if r i then hi else lo)=lead rs r g (if r i then hi else lo)
   refine zch B r f g _ ?_ ?_ ?_<;>(split<;>omega)
  ·have:k=0\/k=1:=by omega
   rcases this with e | e<;>subst e<;>unfold lead
   ·rw[B.h0]
   ·rw[B.h1]
def yes (rs:List Rm)(k:Nat)(r:Row):Bool:=lead rs r k k==1
section
variable {n:Nat}{rs:List Rm}(B:Bk n rs)
include B
theorem len2:2<=rs.length:=by
 have:=(ztv.mp B.h1).1
 omega
theorem zjn (r:Row):yes rs 0 r=false:=rfl
theorem Qm (r:Row):yes rs 1 r=true:=by
 unfold yes lead
 rw[B.h1]
 rfl
theorem zhV {k i lo hi:Nat}(e:rs[k]?=some (some (i,lo,hi)))(r:Row):lead rs r k k=lead rs r (if r i then hi else lo) (if r i then hi else lo):=by
 have hk:=(ztv.mp e).1
 have k2:2<=k:=by
  by_cases h:2<=k
  ·exact h
  ·exfalso
   have:k=0\/k=1:=by omega
   rcases this with z | z<;>subst z
   ·rw[B.h0] at e;cases e
   ·rw[B.h1] at e;cases e
 obtain⟨i',lo',hi',e',_,hlo,hhi,_⟩:=B.rm k k2 hk
 rw[e] at e'
 cases e'
 obtain⟨m,rfl⟩:∃m,k=m+1:=⟨k-1,by omega⟩
 show(match rs[m+1]? with | some (some (i,lo,hi))=>lead rs r m (if r i then hi else lo) | _=>m+1)=_
 rw[e]
 show lead rs r m (if r i then hi else lo)=_
 refine zch B r _ _ _ ?_ (ztI _) ?_<;>(split<;>omega)
theorem S9 {k i lo hi:Nat}(e:rs[k]?=some (some (i,lo,hi)))(r:Row):yes rs k r=if r i then yes rs hi r else yes rs lo r:=by
 unfold yes
 rw[zhV B e r]
 split<;>rfl
theorem Ra {k i lo hi:Nat}(e:rs[k]?=some (some (i,lo,hi))):Ke n rs k=i:=by unfold Ke;rw[e]
theorem zfT:Ke n rs 0=n:=by unfold Ke;rw[B.h0]
theorem zdf:Ke n rs 1=n:=by unfold Ke;rw[B.h1]
theorem Qn:∀(m k:Nat),k<=m->k<rs.length->∀{r r':Row},(∀i,Ke n rs k<=i->i<n->r i=r' i)->yes rs k r=yes rs k r'
 | m,k,hm,hk,r,r',h=>by
  by_cases h2:2<=k
  ·obtain⟨i,lo,hi,e,hin,hlo,hhi,_,l1,l2⟩:=B.rm k h2 hk
   have lk:=Ra B e
   rw[S9 B e,S9 B e,h i (by omega) hin]
   match m,hm with
   | 0,hm=>omega
   | m+1,hm =>
    rw[Qn m hi (by omega) (by omega) fun j hj hjn=>h j (by omega) hjn,Qn m lo (by omega) (by omega) fun j hj hjn=>h j (by omega) hjn]
  ·have:k=0\/k=1:=by omega
   rcases this with z | z<;>subst z
   ·rfl
   ·rw[Qm B,Qm B]
theorem ZG {k i:Nat}(hk:k<rs.length)(h:i<Ke n rs k)(r:Row)(v:Bool):yes rs k (put r i v)=yes rs k r:=by
 refine Qn B k k (ztI _) hk fun j hj _=>?_
 unfold put
 rw[if_neg (by omega)]
theorem UW {k i lo hi:Nat}(e:rs[k]?=some (some (i,lo,hi)))(hk:k<rs.length)(r:Row):yes rs k (put r i false)=yes rs lo r/\yes rs k (put r i true)=yes rs hi r:=by
 have k2:2<=k:=by
  by_cases h:2<=k
  ·exact h
  ·exfalso
   have:k=0\/k=1:=by omega
   rcases this with z | z<;>subst z
   ·rw[B.h0] at e;cases e
   ·rw[B.h1] at e;cases e
 obtain⟨i',lo',hi',e',_,hlo,hhi,_,l1,l2⟩:=B.rm k k2 hk
 rw[e] at e'
 cases e'
 constructor
 ·rw[S9 B e]
  have z:put r i false i=false:=by unfold put;rw[if_pos rfl]
  rw[z,if_neg ztw]
  exact ZG B (by omega) l1 r false
 ·rw[S9 B e]
  have z:put r i true i=true:=by unfold put;rw[if_pos rfl]
  rw[z,if_pos rfl]
  exact ZG B (by omega) l2 r true
theorem Wi:∀(m k l:Nat),(k<=m/\l<=m)->k<rs.length->l<rs.length->(∀r,yes rs k r=yes rs l r)->k=l
 | m,k,l,hm,hk,hl,h=>by
  by_cases k2:2<=k
  ·obtain⟨i,lo,hi,e,hin,hlo,hhi,hne,l1,l2⟩:=B.rm k k2 hk
   by_cases l2':2<=l
   ·obtain⟨j,lo',hi',e',hjn,hlo',hhi',hne',l1',l2''⟩:=B.rm l l2' hl
    match m,hm with
    | 0,hm=>omega
    | m+1,hm =>
     rcases Nat.lt_trichotomy i j with q | q | q
     ·exfalso
      refine hne (Wi m lo hi (by omega) (by omega) (by omega) fun r=>?_)
      have z:=UW B e hk r
      rw[<-z.1,<-z.2,h,h,ZG B hl (by rw[Ra B e'];exact q),ZG B hl (by rw[Ra B e'];exact q)]
     ·subst q
      have a1:lo=lo':=Wi m lo lo' (by omega) (by omega) (by omega) fun r=>by rw[<-(UW B e hk r).1,<-(UW B e' hl r).1,h]
      have a2:hi=hi':=Wi m hi hi' (by omega) (by omega) (by omega) fun r=>by rw[<-(UW B e hk r).2,<-(UW B e' hl r).2,h]
      subst a1 a2
      exact B.uq k l _ e e'
     ·exfalso
      refine hne' (Wi m lo' hi' (by omega) (by omega) (by omega) fun r=>?_)
      have z:=UW B e' hl r
      rw[<-z.1,<-z.2,<-h,<-h,ZG B hk (by rw[Ra B e];exact q),ZG B hk (by rw[Ra B e];exact q)]
   ·exfalso
    match m,hm with
    | 0,hm=>omega
    | m+1,hm =>
     have ll:Ke n rs l=n:=by
      have:l=0\/l=1:=by omega
      rcases this with z | z<;>subst z
      ·exact zfT B
      ·exact zdf B
     refine hne (Wi m lo hi (by omega) (by omega) (by omega) fun r=>?_)
     have z:=UW B e hk r
     rw[<-z.1,<-z.2,h,h,ZG B hl (by omega),ZG B hl (by omega)]
  ·by_cases l2':2<=l
   ·exfalso
    obtain⟨j,lo',hi',e',hjn,hlo',hhi',hne',l1',l2''⟩:=B.rm l l2' hl
    match m,hm with
    | 0,hm=>omega
    | m+1,hm =>
     have ll:Ke n rs k=n:=by
      have:k=0\/k=1:=by omega
      rcases this with z | z<;>subst z
      ·exact zfT B
      ·exact zdf B
     refine hne' (Wi m lo' hi' (by omega) (by omega) (by omega) fun r=>?_)
     have z:=UW B e' hl r
     rw[<-z.1,<-z.2,<-h,<-h,ZG B hk (by omega),ZG B hk (by omega)]
   ·have a:k=0\/k=1:=by omega
    have b:l=0\/l=1:=by omega
    have z:=h fun _=>false
    rcases a with a | a<;>rcases b with b | b<;>subst a<;>subst b
    ·rfl
    ·rw[zjn B,Qm B] at z;cases z
    ·rw[zjn B,Qm B] at z;cases z
    ·rfl
end
theorem ZJ {rs:List Rm}{x:Rm}{k:Nat}(h:k<rs.length):(rs++[x])[k]?=rs[k]?:=ztZ h
theorem Rb {n:Nat}{rs:List Rm}{x:Rm}{k:Nat}(h:k<rs.length):Ke n (rs++[x]) k=Ke n rs k:=by
 unfold Ke;rw[ZJ h]
theorem Bk.snoc {n:Nat}{rs:List Rm}(B:Bk n rs){i lo hi:Nat}(hin:i<n)(hlo:lo<rs.length)(hhi:hi<rs.length)(hne:lo≠hi)(l1:i<Ke n rs lo)(l2:i<Ke n rs hi)(new:some (i,lo,hi)∉rs):Bk n (rs++[some (i,lo,hi)]) where
 h0:=by rw[ZJ (by have:=len2 B;omega)];exact B.h0
 h1:=by rw[ZJ (by have:=len2 B;omega)];exact B.h1
 rm:=fun k h2 hk=>by
  rw[ztA,zt0] at hk
  by_cases hlt:k<rs.length
  ·obtain⟨i',lo',hi',e,a1,a2,a3,a4,a5,a6⟩:=B.rm k h2 hlt
   exact⟨i',lo',hi',by rw[ZJ hlt];exact e,a1,a2,a3,a4,by rw[Rb (by omega)];exact a5,by rw[Rb (by omega)];exact a6⟩
  ·have e:k=rs.length:=by omega
   subst e
   exact⟨i,lo,hi,by simp,hin,hlo,hhi,hne,by rw[Rb hlo];exact l1,by rw[Rb hhi];exact l2⟩
 uq:=fun k l x hk hl=>by
  have lk:=(ztv.mp hk).1
  have ll:=(ztv.mp hl).1
  rw[ztA,zt0] at lk ll
  have last:∀m,m=rs.length->(rs++[some (i,lo,hi)])[m]?=some (some x)->x=(i,lo,hi):=fun m hm h=>by
   subst hm
   simp at h
   exact h.symm
  by_cases h1:k<rs.length
  ·by_cases h2:l<rs.length
   ·rw[ZJ h1] at hk
    rw[ZJ h2] at hl
    exact B.uq k l x hk hl
   ·exfalso
    have e:=last l (by omega) hl
    subst e
    rw[ZJ h1] at hk
    exact new (ztx hk)
  ·by_cases h2:l<rs.length
   ·exfalso
    have e:=last k (by omega) hk
    subst e
    rw[ZJ h2] at hl
    exact new (ztx hl)
   ·omega
theorem zci {n:Nat}{rs:List Rm}(B:Bk n rs){x:Rm}(r:Row):∀(f k:Nat),k<rs.length->lead (rs++[x]) r f k=lead rs r f k
 | 0,_,_=>rfl
 | f+1,k,hk=>by
  unfold lead
  rw[ZJ hk]
  by_cases h2:2<=k
  ·obtain⟨i,lo,hi,e,_,hlo,hhi,_⟩:=B.rm k h2 hk
   rw[e]
   show lead (rs++[x]) r f (if r i then hi else lo)=lead rs r f (if r i then hi else lo)
   exact zci B r f _ (by split<;>omega)
  ·have:k=0\/k=1:=by omega
   rcases this with z | z<;>subst z
   ·rw[B.h0]
   ·rw[B.h1]
theorem zeq {n:Nat}{rs:List Rm}(B:Bk n rs){x:Rm}{k:Nat}(hk:k<rs.length)(r:Row):yes (rs++[x]) k r=yes rs k r:=by
 unfold yes;rw[zci B r k k hk]
def uy (rs rs':List Rm):Prop:=∃xs,rs'=rs++xs
theorem uy.refl (rs:List Rm):uy rs rs:=⟨[],by simp⟩
theorem uy.trans {a b c:List Rm}(h:uy a b)(k:uy b c):uy a c:=by
 obtain⟨x,rfl⟩:=h
 obtain⟨y,rfl⟩:=k
 exact⟨x++y,by rw[List.append_assoc]⟩
theorem uy.len {a b:List Rm}(h:uy a b):a.length<=b.length:=by
 obtain⟨x,rfl⟩:=h
 rw[ztA];omega
theorem uy.get {a b:List Rm}(h:uy a b){k:Nat}(hk:k<a.length):b[k]?=a[k]?:=by
 obtain⟨x,rfl⟩:=h
 exact ztZ hk
theorem uy.snoc (rs:List Rm)(x:Rm):uy rs (rs++[x]):=⟨[x],rfl⟩
theorem uy.Ke {n:Nat}{a b:List Rm}(h:uy a b){k:Nat}(hk:k<a.length):Ke n b k=Ke n a k:=by
 unfold yF.Ke;rw[h.get hk]
theorem uy.lead {n:Nat}{a b:List Rm}(B:Bk n a)(h:uy a b)(r:Row):∀(f k:Nat),k<a.length->lead b r f k=lead a r f k
 | 0,_,_=>rfl
 | f+1,k,hk=>by
  unfold yF.lead
  rw[h.get hk]
  by_cases h2:2<=k
  ·obtain⟨i,lo,hi,e,_,hlo,hhi,_⟩:=B.rm k h2 hk
   rw[e]
   show yF.lead b r f (if r i then hi else lo)=yF.lead a r f (if r i then hi else lo)
   exact uy.lead B h r f _ (by split<;>omega)
  ·have:k=0\/k=1:=by omega
   rcases this with z | z<;>subst z
   ·rw[B.h0]
   ·rw[B.h1]
theorem uy.yes {n:Nat}{a b:List Rm}(B:Bk n a)(h:uy a b){k:Nat}(hk:k<a.length)(r:Row):yes b k r=yes a k r:=by
 unfold yF.yes;rw[uy.lead B h r k k hk]
theorem sub_len {α:Type}[DecidableEq α]:∀{xs ys:List α},xs.Nodup->(∀x∈xs,x∈ys)->xs.length<=ys.length
 | [],_,_,_=>ztP _
 | x::xs,ys,nd,h=>by
  obtain⟨h1,h2⟩:=List.nodup_cons.mp nd
  have hx:=h x ztM
  have ih:=sub_len (xs:=xs) (ys:=ys.erase x) h2 fun y hy=>(List.mem_erase_of_ne (fun e:y=x=>h1 (by rw[<-e];exact hy))).mpr (h y (ztD _ hy))
  rw[List.length_erase_of_mem hx] at ih
  have:=List.length_pos_of_mem hx
  rw[ztE]
  omega
end yF
namespace L2
theorem hu9 {A:PySem.Around}{k:Nat}(hr:Zh k A):A.units+9<PySem.cLine:=by have:=hr.units;omega
end L2
namespace yU
open PySem L2 yF
abbrev ZK:=Addr->Prop
def zmO (F:ZK)(H H':Hp):Prop:=∀x o,H x=some o->¬F x->H' x=some o
def zcj:List Str:=["room", "size", "order", "enter", "worth_at", "below"]
structure zaF (C:Addr)(B:Hp->Addr->List Str->List Rm->ZK->Prop):Prop where
 ins:∀{H b os rs F},B H b os rs F->∃dx fs,H b=some (.ins C dx fs)/\∀m∈zcj,fs.lookup m=none
 frame:∀{H H' b os rs F},B H b os rs F->(∀x o,H x=some o->F x->H' x=some o)->yN H H'->B H' b os rs F
 there:∀{H b os rs F x},B H b os rs F->F x->H x≠none
 bk:∀{H b os rs F},B H b os rs F->Bk os.length rs
 ord:∀{H b os rs F},B H b os rs F->Mf os
theorem zaF.same {C:Addr}{B:Hp->Addr->List Str->List Rm->ZK->Prop}(L:zaF C B){H H':Hp}{b:Addr}{os:List Str}{rs:List Rm}{F:ZK}(h:B H b os rs F)(g:Same H H'):B H' b os rs F :=
 L.frame h (fun x o e _=>g x o e) (yN.of g)
def znZ (os:List Str)(r:Row):Str->Bool:=fun x=>r (ix os x)
section
variable (B:Hp->Addr->List Str->List Rm->ZK->Prop)(K:Frag)(C:Addr)
inductive Py (vs:List V)(H:Hp)(Q:VK)(E9:XK):Prop
 | mk (b dx l:Addr) (os:List Str) (_:vs=[.ref b,.ref l]) (_:H b=some (.ins C dx [])) (_:b≠dx) (_:zP K H l (os.map V.str)) (_:Mf os) (_:∀(H':Hp) (F:ZK),(∀x o,H x=some o->x≠b->H' x=some o)->B H' b os [none,none] F->(∀x,F x->x=b\/x=dx\/H x=none)->Q .non H'):Py vs H Q E9
inductive uz (vs:List V)(H:Hp)(Q:VK)(E9:XK):Prop
 | mk (b:Addr) (os:List Str) (rs:List Rm) (F:ZK) (_:vs=[.ref b]) (_:B H b os rs F) (_:∀(l:Addr) (H':Hp),Same H H'->H l=none->H' l=some (.lst (os.map V.str))->Q (.ref l) H'):uz vs H Q E9
end
theorem zlS {K:Frag}{H:Hp}{n:Nat}{p q:Addr}{xs ys:List V}(hp:zP K H p xs)(hq:zP K H q ys)(hl:xs.length=ys.length)(h:∀(j:Nat) x y,xs[j]?=some x->ys[j]?=some y->S6 K H n x y true):S6 K H (n+1) (.ref p) (.ref q) true:=by
 have z:=S6.ll (e:=fun _=>true) hp hq hl h
 have e:(List.range xs.length).all (fun _=>true)=true:=by simp
 rw[e] at z
 exact z
theorem zg9 {K:Frag}{H:Hp}{n:Nat}{x:V}(f:xX x=true):S6 K H n x x true:=by
 have z:=S6.flat (K:=K) (H:=H) (n:=n) f f
 rw[Mq f] at z
 exact z
theorem zer {xs:List V}{n:Nat}:QD xs none (some (n:Int))=xs.take n:=by
 unfold QD
 rw[HT.zam,HT.R8,List.drop_zero,Nat.sub_zero]
 by_cases h:n<=xs.length
 ·rw[Nat.min_eq_left h]
 ·rw[Nat.min_eq_right (by omega),ztV,List.take_of_length_le (by omega)]
end yU
namespace L2
open PySem PySem.Spec PyProof.Rows
theorem zhW:bootBuiltins "sorted"=some (.builtin "sorted"):=by decide +kernel
end L2
namespace yF
def Means (rs:List Rm)(k:Nat)(f:Row->Bool):Prop:=k<rs.length/\∀r,yes rs k r=f r
end yF
namespace L2
open PySem
theorem zpC {X:Cx}{all rest:List Stmt}{D:Ends}{Tf:TS->TS}{Pre:St->Hp->Prop}(Mid:St->Hp->Prop)(h1:∀t,PSs X rest t->PSs X all (Tf t))(h:∀u:TS,(∀ σ H,Mid σ H->u D σ H)->∀ σ H,Pre σ H->Tf u D σ H)
  (hr:∃t,PSs X rest t/\∀ σ H,Mid σ H->t D σ H):∃t,PSs X all t/\∀ σ H,Pre σ H->t D σ H :=
 let ⟨t,a,b⟩:=hr
 ⟨Tf t,h1 t a,h t b⟩
theorem zpD {X:Cx}{all:List Stmt}{D:Ends}{σ:St}{H:Hp}(h:∃t,PSs X all t/\∀ σ' H',(σ'=σ/\H'=H)->t D σ' H'):∃t,PSs X all t/\t D σ H :=
 let ⟨t,a,b⟩:=h
 ⟨t,a,b _ _ ⟨rfl,rfl⟩⟩
end L2
namespace yF
open yU
def Jy (b:Nat):Row:=fun i=>b.testBit i
def bits (r:Row):Nat->Nat
 | 0=>0
 | n+1=>if r n then bits r n+2^n else bits r n
theorem Za (r:Row):∀n,bits r n<2^n
 | 0=>Nat.zero_lt_one
 | n+1=>by
  have ih:=Za r n
  unfold bits
  rw[Nat.pow_succ]
  split<;>omega
theorem Y9 (r:Row):∀{n i:Nat},i<n->(bits r n).testBit i=r i
 | 0,i,h=>by omega
 | n+1,i,h=>by
  have lt:=Za r n
  have z:(bits r n).testBit n=false:=Nat.testBit_lt_two_pow lt
  unfold bits
  by_cases e:i=n
  ·subst e
   cases hr:r i
   ·rw[if_neg ztw];exact z
   ·rw[if_pos rfl,vA,z];rfl
  ·have hi:i<n:=by omega
   split
   ·rw[Qd hi];exact Y9 r hi
   ·exact Y9 r hi
theorem ZL {n a b:Nat}(ha:a<2^n)(hb:b<2^n)(h:∀i,i<n->a.testBit i=b.testBit i):a=b :=
 Nat.eq_of_testBit_eq fun i=>by
  by_cases hi:i<n
  ·exact h i hi
  ·have:2^n<=2^i:=ztY (by decide) (by omega)
   rw[Nat.testBit_lt_two_pow (by omega),Nat.testBit_lt_two_pow (by omega)]
theorem zes {r:Row}{n i:Nat}(hi:i<n)(v:Bool):bits (put r i v) n=zM (bits r n) i v:=by
 refine ZL (Za _ _) (zT (Za _ _) hi) fun j hj=>?_
 rw[Y9 _ hj,zQ,Y9 _ hj]
 rfl
theorem Qo {n b:Nat}(h:b<2^n):bits (Jy b) n=b:=ZL (Za _ _) h fun i hi=>by rw[Y9 _ hi];rfl
theorem zjo {n:Nat}{rs:List Rm}(B:Bk n rs){k:Nat}(hk:k<rs.length)(r:Row):yes rs k (Jy (bits r n))=yes rs k r :=
 Qn B k k (ztI _) hk fun i _ hi=>Y9 r hi
theorem Vc {n N M:Nat}{f g:Nat->Bool}(h:zV n N f)(k:zV n M g)(e:∀b,b<2^n->f b=g b):N=M :=
 Nat.eq_of_testBit_eq fun i=>by
  rw[h i,k i]
  by_cases hi:i<2^n
  ·rw[e i hi]
  ·rw[decide_eq_false hi];rfl
theorem ZM {n N:Nat}{f:Nat->Bool}(h:zV n N f){b:Nat}(hb:b<2^n):N.testBit b=f b:=by rw[h b,decide_eq_true hb];rfl
def Free (n:Nat)(f:Nat->Bool)(p:Nat):Prop:=∀b,b<2^n->∀v,f (zM b p v)=f b
theorem yD (b p:Nat):zM b p (b.testBit p)=b:=by unfold zM;rw[if_pos rfl]
theorem Free.zk0 {n p:Nat}{f:Nat->Bool}(h:∀b,b<2^n->f (zM b p (!b.testBit p))=f b):Free n f p:=fun b hb v=>by
 by_cases e:v=b.testBit p
 ·rw[e,yD]
 ·have:v=!b.testBit p:=by cases v<;>cases hh:b.testBit p<;>simp_all
  rw[this];exact h b hb
theorem YD {n:Nat}{f:Nat->Bool}(h:∀p,p<n->Free n f p):∀b,b<2^n->f b=f 0:=by
 have key:∀m b,m<=n->b<2^n->(∀i,m<=i->i<n->b.testBit i=false)->f b=f 0:=by
  intro m
  induction m with
  | zero =>
   intro b _ hb hz
   have:b=0:=ZL hb (Nat.two_pow_pos n) fun i hi=>by rw[hz i (ztP _) hi,Nat.zero_testBit]
   rw[this]
  | succ m ih =>
   intro b hm hb hz
   rw[<-h m (by omega) b hb false]
   refine ih _ (by omega) (zT hb (by omega)) fun i hi hin=>?_
   rw[zQ]
   by_cases e:i=m
   ·rw[if_pos e]
   ·rw[if_neg e];exact hz i (by omega) hin
 exact fun b hb=>key n b (ztI _) hb fun i hi hin=>by omega
theorem zmP {n:Nat}{rs:List Rm}(B:Bk n rs){k p:Nat}(hk:k<rs.length)(hp:p<n)(h:∀i,i<=p->∀r v,yes rs k (put r i v)=yes rs k r):p<Ke n rs k:=by
 by_cases k2:2<=k
 ·obtain⟨i,lo,hi,e,hin,hlo,hhi,hne,l1,l2⟩:=B.rm k k2 hk
  rw[Ra B e]
  by_cases hip:i<=p
  ·exfalso
   refine hne (Wi B (max lo hi) lo hi ⟨Nat.le_max_left _ _,Nat.le_max_right _ _⟩ (by omega) (by omega) fun r=>?_)
   have z:=UW B e hk r
   rw[<-z.1,<-z.2,h i hip,h i hip]
  ·omega
 ·have:k=0\/k=1:=by omega
  rcases this with z | z<;>subst z
  ·rw[zfT B];exact hp
  ·rw[zdf B];exact hp
theorem zjp {n m p k0 k1:Nat}{rs:List Rm}{f:Nat->Bool}(B:Bk n rs)(hp:p<n)(m0:k0<rs.length)(m1:k1<rs.length)
  (y0:∀r,yes rs k0 r=f (zM (bits r n) p false))(y1:∀r,yes rs k1 r=f (zM (bits r n) p true))(fr:∀i,i<p->Free n f i)
  (dep:∃b,b<2^n/\f (zM b p false)≠f (zM b p true))(old:∀j,j<m->¬∀r,yes rs j r=f (bits r n))(hl:∀j,m<=j->j<rs.length->p<Ke n rs j) :
  Bk n (rs++[some (p,k0,k1)])/\∀r,yes (rs++[some (p,k0,k1)]) rs.length r=f (bits r n):=by
 have pb:∀(r:Row) v,zM (bits r n) p v<2^n:=fun r v=>zT (Za _ _) hp
 have low:∀(k:Nat) (w:Bool),k<rs.length->(∀r,yes rs k r=f (zM (bits r n) p w))->p<Ke n rs k:=fun k w hk hy=>zmP B hk hp fun i hi r v=>by
  rw[hy,hy,zes (by omega)]
  by_cases e:i=p
  ·subst e
   congr 1
   refine ZL (zT (zT (Za _ _) hp) hp) (pb r w) fun j _=>?_
   rw[zQ,zQ,zQ]
   by_cases e:j=i
   ·rw[if_pos e,if_pos e]
   ·rw[if_neg e,if_neg e,if_neg e]
  ·rw[<-fr i (by omega) _ (pb r w) v]
   congr 1
   refine ZL (zT (zT (Za _ _) (by omega)) hp) (zT (pb r w) (by omega)) fun j _=>?_
   rw[zQ,zQ,zQ,zQ]
   by_cases e1:j=p
   ·rw[if_pos e1,if_pos e1,if_neg (by omega)]
   ·rw[if_neg e1,if_neg e1]
 have ne:k0≠k1:=fun e=>by
  subst e
  obtain⟨b,hb,hne⟩:=dep
  refine hne ?_
  have a:=y0 (Jy b)
  have c:=y1 (Jy b)
  rw[Qo hb] at a c
  exact a.symm.trans c
 have fin:∀(R:List Rm) (k:Nat),Bk n R->R[k]?=some (some (p,k0,k1))->(∀j,j<rs.length->∀r,yes R j r=yes rs j r)->∀r,yes R k r=f (bits r n):=fun R k BR e same r=>by
  rw[S9 BR e,same _ m1,same _ m0,y0,y1]
  have hb:=Y9 r hp
  cases hr:r p
  ·rw[if_neg ztw]
   rw[hr] at hb
   conv=>rhs;rw[<-yD (bits r n) p,hb]
  ·rw[if_pos rfl]
   rw[hr] at hb
   conv=>rhs;rw[<-yD (bits r n) p,hb]
 have new:some (p,k0,k1)∉rs:=fun h=>by
  obtain⟨j,hj,e⟩:=zua h
  have e':rs[j]?=some (some (p,k0,k1)):=by rw[ztt hj,e]
  by_cases hm:j<m
  ·exact old j hm (fin rs j B e' fun _ _ _=>rfl)
  ·have:=hl j (by omega) hj
   rw[Ra B e'] at this
   omega
 have B':=B.snoc hp m0 m1 ne (low k0 false m0 y0) (low k1 true m1 y1) new
 refine⟨B',fin _ _ B' (by simp) fun j hj r=>?_⟩
 exact zeq B hj r
structure zet (n:Nat)(rs:List Rm)(ts:List Nat):Prop where
 len:ts.length=rs.length
 tab:∀(j t:Nat),ts[j]?=some t->zV n t (fun b=>yes rs j (Jy b))
theorem zet.snoc {n:Nat}{rs:List Rm}(B:Bk n rs){ts:List Nat}{x:Rm}{t:Nat}(h:zet n rs ts)(k:zV n t (fun b=>yes (rs++[x]) rs.length (Jy b))):zet n (rs++[x]) (ts++[t]):=by
 refine⟨by rw[ztA,ztA,h.len];rfl,fun j u e=>?_⟩
 by_cases hj:j<ts.length
 ·rw[ztZ hj] at e
  refine yI (h.tab j u e) fun b _=>?_
  rw[zeq B (by rw[<-h.len];exact hj)]
 ·have lt:=(ztv.mp e).1
  rw[ztA,zt0] at lt
  have ej:j=ts.length:=by omega
  subst ej
  simp at e
  subst e
  rw[h.len]
  exact k
theorem zet.find {n:Nat}{rs:List Rm}(B:Bk n rs){ts:List Nat}(h:zet n rs ts){j t:Nat}{f:Nat->Bool}(e:ts[j]?=some t)(tb:zV n t f)(r:Row):yes rs j r=f (bits r n):=by
 have hj:j<rs.length:=by rw[<-h.len];exact(ztv.mp e).1
 rw[<-zjo B hj,<-ZM tb (Za r n),ZM (h.tab j t e) (Za r n)]
theorem zet.same {n:Nat}{rs:List Rm}{ts:List Nat}(h:zet n rs ts){j t:Nat}{f:Nat->Bool}(hj:j<rs.length)(tb:zV n t f)(hy:∀r,yes rs j r=f (bits r n)):ts[j]?=some t:=by
 have lt:j<ts.length:=by rw[h.len];exact hj
 rw[ztt lt]
 congr 1
 refine Vc (h.tab j _ (ztt lt)) tb fun b hb=>?_
 show yes rs j (Jy b)=f b
 rw[hy,Qo hb]
end yF
namespace yU
open PySem L2 yF
structure Nums (ts:List Nat)(kvs:List (Key×V)):Prop where
 get:∀(j t:Nat),ts[j]?=some t->Zx kvs (Sum.inl (t:Int))=some (.int (j:Nat))
 non:∀t:Nat,t∉ts->Zx kvs (Sum.inl (t:Int))=none
 len:kvs.length<=ts.length
theorem Nums.snoc {ts:List Nat}{kvs:List (Key×V)}(h:Nums ts kvs){t:Nat}(ht:t∉ts):Nums (ts++[t]) (putK kvs (Sum.inl (t:Int)) (.int (ts.length:Nat))):=by
 refine⟨fun j u e=>?_,fun u hu=>?_,?_⟩
 ·rw[wX]
  by_cases hj:j<ts.length
  ·rw[ztZ hj] at e
   have hm:=ztx e
   rw[if_neg fun z=>?_]
   ·exact h.get j u e
   ·have:(u:Int)=(t:Int):=Sum.inl.inj z
    have:u=t:=by omega
    exact ht (this ▸ hm)
  ·have lt:=(ztv.mp e).1
   rw[ztA,zt0] at lt
   have ej:j=ts.length:=by omega
   subst ej
   simp at e
   subst e
   rw[if_pos rfl]
 ·rw[wX,if_neg fun z=>?_]
  ·exact h.non u fun z=>hu (List.mem_append_left _ z)
  ·have:(u:Int)=(t:Int):=Sum.inl.inj z
   have:u=t:=by omega
   exact hu (this ▸ ztJ _ ztM)
 ·have:=Vb kvs (Sum.inl (t:Int)) (.int (ts.length:Nat))
  have:=h.len
  rw[ztA,zt0]
  omega
def zn0 (n j:Nat):Rm->List V
 | none=>[.int (n:Nat),.int (j:Nat),.int (j:Nat)]
 | some (i,lo,hi)=>[.int (i:Nat),.int (lo:Nat),.int (hi:Nat)]
def Kf (ml rl tl nd:Addr):List (Str×V):=[("marks", .ref ml),("rooms", .ref rl),("tables", .ref tl),("numbers", .ref nd)]
structure Parts (C:Addr)(H:Hp)(b:Addr)(os:List Str)(rs:List Rm)(F:ZK)(dx ml rl tl nd:Addr)(rv:List V)(ts:List Nat)(kvs:List (Key×V)):Prop where
 hb:H b=some (.ins C dx (Kf ml rl tl nd))
 hm:H ml=some (.lst (os.map V.str))
 hr:H rl=some (.lst rv)
 ht:H tl=some (.lst (ts.map fun t=>V.int (t:Nat)))
 hd:H nd=some (.dK kvs)
 mr:ml≠rl
 mt:ml≠tl
 rt:rl≠tl
 ord:Mf os
 bk:Bk os.length rs
 len:rv.length=rs.length
 rm:∀(j:Nat) x,rs[j]?=some x->∃p,rv[j]?=some (.ref p)/\H p=some (.tup (zn0 os.length j x))
 tabs:zet os.length rs ts
 nums:Nums ts kvs
 ft:∀x,F x↔(x=b\/x=ml\/x=rl\/x=tl\/x=nd)
def yP (C:Addr)(H:Hp)(b:Addr)(os:List Str)(rs:List Rm)(F:ZK):Prop:=∃dx ml rl tl nd rv ts kvs,Parts C H b os rs F dx ml rl tl nd rv ts kvs
theorem Parts.frame {C:Addr}{H H':Hp}{b:Addr}{os:List Str}{rs:List Rm}{F:ZK}{dx ml rl tl nd:Addr}{rv:List V}{ts:List Nat}{kvs:List (Key×V)}(h:Parts C H b os rs F dx ml rl tl nd rv ts kvs)
  (s:∀x o,H x=some o->F x->H' x=some o)(t:yN H H'):Parts C H' b os rs F dx ml rl tl nd rv ts kvs :=
 {h with
  hb:=s _ _ h.hb ((h.ft _).mpr (.inl rfl))
  hm:=s _ _ h.hm ((h.ft _).mpr (.inr (.inl rfl)))
  hr:=s _ _ h.hr ((h.ft _).mpr (.inr (.inr (.inl rfl))))
  ht:=s _ _ h.ht ((h.ft _).mpr (.inr (.inr (.inr (.inl rfl)))))
  hd:=s _ _ h.hd ((h.ft _).mpr (.inr (.inr (.inr (.inr rfl)))))
  rm:=fun j x e=>let ⟨p,a,c⟩:=h.rm j x e;⟨p,a,t _ _ c⟩ }
theorem uD (C:Addr):zaF C (yP C) where
 ins:=fun⟨dx,ml,rl,tl,nd,rv,ts,kvs,h⟩=>⟨dx,_,h.hb,fun m hm=>by
  simp only[zcj,List.mem_cons,ztT,or_false] at hm
  rcases hm with z | z | z | z | z | z<;>subst z<;>rfl⟩
 frame:=fun⟨dx,ml,rl,tl,nd,rv,ts,kvs,h⟩ s t=>⟨dx,ml,rl,tl,nd,rv,ts,kvs,h.frame s t⟩
 there:=fun⟨dx,ml,rl,tl,nd,rv,ts,kvs,h⟩ hx=>by
  rcases (h.ft _).mp hx with z | z | z | z | z<;>subst z
  ·rw[h.hb];exact fun z=>by cases z
  ·rw[h.hm];exact fun z=>by cases z
  ·rw[h.hr];exact fun z=>by cases z
  ·rw[h.ht];exact fun z=>by cases z
  ·rw[h.hd];exact fun z=>by cases z
 bk:=fun⟨_,_,_,_,_,_,_,_,h⟩=>h.bk
 ord:=fun⟨_,_,_,_,_,_,_,_,h⟩=>h.ord
theorem Parts.more {C:Addr}{H H':Hp}{b:Addr}{os:List Str}{rs:List Rm}{F:ZK}{dx ml rl tl nd:Addr}{rv:List V}{ts:List Nat}{kvs:List (Key×V)}(h:Parts C H b os rs F dx ml rl tl nd rv ts kvs)
  {i lo hi t:Nat}{q:Addr}(t':yN H H')(hb:H' b=H b)(hm:H' ml=H ml)(hr:H' rl=some (.lst (rv++[.ref q])))(ht:H' tl=some (.lst (ts.map (fun t=>V.int (t:Nat))++[.int (t:Nat)])))
  (hd:H' nd=some (.dK (putK kvs (Sum.inl (t:Int)) (.int (rs.length:Nat)))))(hq:H' q=some (.tup [.int (i:Nat),.int (lo:Nat),.int (hi:Nat)]))(B':Bk os.length (rs++[some (i,lo,hi)]))(hn:t∉ts)(tb:zV os.length t (fun b=>yes (rs++[some (i,lo,hi)]) rs.length (Jy b))) :
  Parts C H' b os (rs++[some (i,lo,hi)]) F dx ml rl tl nd (rv++[.ref q]) (ts++[t]) (putK kvs (Sum.inl (t:Int)) (.int (rs.length:Nat))) :=
 {hb:=by rw[hb];exact h.hb
  hm:=by rw[hm];exact h.hm
  hr:=hr
  ht:=by rw[ht,ztG];rfl
  hd:=hd
  mr:=h.mr
  mt:=h.mt
  rt:=h.rt
  ord:=h.ord
  bk:=B'
  len:=by rw[ztA,ztA,h.len];rfl
  rm:=fun j x e=>by
   by_cases hj:j<rs.length
   ·rw[ztZ hj] at e
    obtain⟨p,a,c⟩:=h.rm j x e
    exact⟨p,by rw[ztZ (by rw[h.len];exact hj)];exact a,t' _ _ c⟩
   ·have lt:=(ztv.mp e).1
    rw[ztA,zt0] at lt
    have ej:j=rs.length:=by omega
    subst ej
    simp at e
    subst e
    exact⟨q,by rw[<-h.len];simp,hq⟩
  tabs:=h.tabs.snoc h.bk tb
  nums:=by
   have z:=h.nums.snoc hn
   rw[h.tabs.len] at z
   exact z
  ft:=h.ft }
inductive Wj (vs:List V)(H:Hp)(Q:VK)(E9:XK):Prop
 | mk (N p n:Nat) (v:Bool) (f:Nat->Bool) (_:vs=[.int N,.int p,.int (v.toNat:Nat),.int n]) (_:p<n) (_:n<=8) (_:zV n N f) (_:∀R:Nat,zV n R (fun b=>f (zM b p v))->Q (.int R) H):Wj vs H Q E9
inductive J9 (vs:List V)(H:Hp)(Q:VK)(E9:XK):Prop
 | mk (N n:Nat) (f:Nat->Bool) (_:vs=[.int N,.int n]) (_:n<=8) (_:zV n N f) (_:∀p:Nat,p<=n->(∀i,i<p->Free n f i)->(p<n->∃b,b<2^n/\f (zM b p false)≠f (zM b p true))->Q (.int p) H):J9 vs H Q E9
inductive Yp (C:Addr)(vs:List V)(H:Hp)(Q:VK)(E9:XK):Prop
 | mk (b:Addr) (os:List Str) (rs:List Rm) (F:ZK) (k:Nat) (_:vs=[.ref b,.int k]) (_:yP C H b os rs F) (_:k<rs.length) (_:Q .non H):Yp C vs H Q E9
inductive XQ (C:Addr)(vs:List V)(H:Hp)(Q:VK)(E9:XK):Prop
 | mk (b:Addr) (os:List Str) (rs:List Rm) (F:ZK) (k:Nat) (_:vs=[.ref b,.int k]) (_:yP C H b os rs F) (_:k<rs.length) (_:∀t:Nat,zV os.length t (fun b=>yes rs k (Jy b))->Q (.int t) H):XQ C vs H Q E9
inductive zdg (vs:List V)(H:Hp)(Q:VK)(E9:XK):Prop
 | mk (N p n:Nat) (f:Nat->Bool) (_:vs=[.int N,.int p,.int n]) (_:p<n) (_:n<=8) (_:zV n N f) (_:∀b:Bool,(b=false->Free n f p)->(b=true->∃c,c<2^n/\f (zM c p false)≠f (zM c p true))->Q (.bl b) H):zdg vs H Q E9
inductive XR (vs:List V)(H:Hp)(Q:VK)(E9:XK):Prop
 | mk (N M n:Nat) (f g:Nat->Bool) (_:vs=[.int N,.int M]) (_:zV n N f) (_:zV n M g) (_:∀R:Nat,zV n R (fun b=>f b&&!g b)->Q (.int R) H):XR vs H Q E9
end yU
namespace L2
open PySem PySem.Spec PyProof.Rows
def Its (x:Str):It:={ go:=fun i _=>i<x.cps.size,R7:=fun i H v H'=>H'=H/\∃c,x.cps[i]?=some c/\v=.str ⟨#[c]⟩,stop:=fun i _=>i=x.cps.size }
theorem zjq {P:Program}{w:World}{K:Frag}{tg:Expr}(it:Addr)(x:Str)(t:Tok):Turn P w K tg (Its x) [it] it (fun i h=>h.IsStrIter it "str_ascii_iterator" x t i) where
 mem:=by simp
 obj:=fun i h st b hb=>by
  have e:b=it:=by simpa using hb
  subst e
  obtain⟨o,e,c,d⟩:=st
  exact⟨o,e,fun v z=>by rw[d] at z;cases z⟩
 keep:=fun i h h' st k=>by
  obtain⟨o,e,c,d⟩:=st
  exact⟨o,k it (by simp) o e,c,d⟩
 item:=by
  intro X hP hw hK hc i pins s σ H E I hf st hg
  subst hP hw hK
  obtain⟨f0,f1,f2,f3,f4,f5⟩:=hf it (by simp)
  have W:=Walks.strAscii (prog:=X.prog) (w:=X.w) (I.ok.hd hc) it x t
  refine W.item i s _ _ hg st fun v h' tk hv st' kk=>?_
  obtain⟨c,u,hc',rfl⟩:=hv
  have I1:Inv X pins σ H { s with heap:=h',toks:=tk }:=I.turned (fun b o hb e=>kk b o (by simpa using hb) e) f0 f1 f3 f4 f5
  obtain⟨o,e,cc,d⟩:=id st'
  exact⟨_,rfl,zd8 (s:={ s with heap:=h',toks:=tk }) e cc d (by decide) ⟨.str ⟨#[c]⟩,H,I1,⟨u,rfl⟩,⟨rfl,c,hc',rfl⟩,st',fun b hb=>(hf b hb).1⟩⟩
 done:=by
  intro X hP hw hK hc i pins s σ H E I hf st hg
  subst hP hw hK
  obtain⟨f0,f1,f2,f3,f4,f5⟩:=hf it (by simp)
  have W:=Walks.strAscii (prog:=X.prog) (w:=X.w) (I.ok.hd hc) it x t
  have e:i=x.cps.size:=hg
  subst e
  exact W.done s _ _ st fun h' tk kk=>⟨rfl,I.turned (fun b o hb e=>kk b o (by simpa using hb) e) f0 f1 f3 f4 f5⟩
 self:=fun _ _ _ _ _ st h=>wpAny_pyIter_striter_ascii st h
section
variable {X:Cx}{tg:Expr}
def zpE (tl:TE):TI:=fun σ H R=>tl σ H fun x H1=>∃z:Str,x=.str z/\(z.cps.all fun c=>decide (c<128))=true/\R (Its z) H1
theorem zjr {l:Expr}{tl:TE}(hl:PE X l tl):PI X tg l (zpE tl):=by
 intro pins s σ H R I h
 refine wM (hl pins s σ H _ I h) fun v s1 ⟨x,H1,I1,r1,q1⟩=>?_
 obtain⟨z,e,ha,q⟩:=q1
 subst e
 obtain⟨t,rfl⟩:=r1
 refine wpAny_pyIter_ascii ha ?_
 refine⟨s1.heap.objs.size,[s1.heap.objs.size],_,_,H1,rfl,I1.kept (t':=s1.toks) fun b o e=>zty _ e,zjq _ z t,⟨_,ztN _ rfl,rfl,rfl⟩,fun b hb=>?_,q⟩
 have e:b=s1.heap.objs.size:=by simpa using hb
 subst e
 exact I1.zd7 (ztI _) (I1.hok.fresh (ztI _))
end
end L2
namespace yU
open PySem L2 yF
def chc (b:Bool):Nat:=if b then 49 else 48
end yU
namespace yF
open yU
def allR:Nat->List (List Bool)
 | 0=>[[]]
 | n+1=>(allR n).flatMap fun r=>[r++[false],r++[true]]
def zn1 (r:List Bool):Row:=fun i=>r.getD i false
theorem vQ:∀(n:Nat) (r:List Bool),r∈allR n->r.length=n
 | 0,r,h=>by
  have:r=[]:=by simpa [allR] using h
  rw[this];rfl
 | n+1,r,h=>by
  obtain⟨x,hx,hr⟩:=List.mem_flatMap.mp h
  have ih:=vQ n x hx
  simp at hr
  rcases hr with z | z<;>rw[z,ztA,ih]<;>rfl
theorem Kg {α β:Type}(f:α->List β)(h:∀a,(f a).length=2):∀l:List α,(l.flatMap f).length=2*l.length
 | []=>rfl
 | a::l=>by rw[List.flatMap_cons,ztA,h a,Kg f h l,ztE];omega
theorem XS:∀n,(allR n).length=2^n
 | 0=>rfl
 | n+1=>by
  show((allR n).flatMap _).length=_
  rw[Kg _ (fun _=>rfl),XS n,Nat.pow_succ];omega
end yF
namespace L2
open PySem PySem.Spec PyProof.Rows
section
variable {X:Cx}{sc wO:Scope}{xs:List Str}{js:List Nat}{tg:Expr}{g:TG}{elt iter:Expr}{px pos:Pos}{ifs:List Expr}{wi:TI}{tt:TT}{te:TE}
theorem zjs (Yj:X.env.scope=wO)(L:zee wO sc xs (js.map fun j=>X.N.getD j ""))(hc:X.calm=true)(hi:PI X tg iter wi)(hg:∀(cl:List (Str×Addr)) (C:Addr) (s₂:Shared) (H₂:Hp) (fp:List Addr),PG (X.blk sc cl C (Uw X xs js) s₂ H₂ fp) tg g)(hjs:∀j∈js,j<X.N.length)
  (ht:∀(cl:List (Str×Addr)) (C:Addr) (s₂:Shared) (H₂:Hp) (fp:List Addr) (pins:List (Addr×Obj)) (s':Shared) (σ':St) (H':Hp) (Q:Bool->Hp->Prop),Inv (X.blk sc cl C (Uw X xs js) s₂ H₂ fp) pins σ' H' s'->tt σ' H' Q ->
   wpAny (model X.prog X.w) X.A (YB ifs (compEnvC sc cl C X.env)) (TP (X.blk sc cl C (Uw X xs js) s₂ H₂ fp) pins σ' Q) (fun _ _=>False) s')
  (he:∀(cl:List (Str×Addr)) (C:Addr) (s₂:Shared) (H₂:Hp) (fp:List Addr),PE (X.blk sc cl C (Uw X xs js) s₂ H₂ fp) elt te)
  (hs:∀x,foldedSetIterable iter X.env x=pure x:=by intro _;rfl) :
  PE X (.ListComp elt [⟨tg,iter,ifs,0⟩] sc pos) (zkD wi xs js g tt te):=by
 intro pins s σ H Q I h
 rw[eval_ListComp]
 refine zap (use:=none) (Fin:=fun ys H=>∀p,H p=none->Q (.ref p) (upd H p (.lst ys))) Yj L (rd:=Calm) (fun _ _ _ _ _ _ _=>hc) hi hg hjs ht he hs I h fun D C s5 H5 ys its k m5 J oD oC hDC p1 vs z hn fin=>?_
 refine⟨m5,hn,fun h' hsb=>?_⟩
 have J2:Inv X pins σ H5 { s5 with heap:=h',toks:=s5.toks }:=J.turned (it:=C) (fun b o hb e=>hsb.extBut b o hb e) oC.free oC.loc (.inr oC.new) oC.cel oC.pin
 have p1':h'.get? D=some (v9 its k):=hsb.extBut _ _ hDC p1
 have J3:Inv X pins σ (upd H5 D (.lst ys)) { s5 with heap:=h',toks:=s5.toks }:=J2.track oD.free oD.loc oD.new oD.cel oD.pin ⟨z,its,k,vs,p1'⟩
 exact⟨.ref D,_,J3,rfl,fin D oD.free⟩
end
theorem Inv.zk1 {X:Cx}{pins:List (Addr×Obj)}{σ:St}{H:Hp}{s:Shared}{h':Heap}{t':Nat}{fp:List Addr}(I:Inv X pins σ H s)(k:∀b o,b∉fp->s.heap.get? b=some o->h'.get? b=some o)(hf:∀b∈fp,zbt X pins H b) :
  Inv X pins σ H { s with heap:=h',toks:=t' }:=by
 have nit:∀b u,H b=some u->b∉fp:=fun b u e z=>by rw[(hf b z).1] at e;cases e
 refine I.step (g':=s.gens) (d':=s.drawn) (ch:=fp) (fun b hb=>⟨(hf b hb).2.2.2.1,(hf b hb).2.1,(hf b hb).2.2.2.2.1,(hf b hb).2.2.2.2.2⟩) (fun b o _ _ hc e _=>k b o hc e) (fun b o _ _ hc e _=>⟨o.slots,k b o hc e⟩) (fun _ _ _ _ n=>n)
  (fun b o hc e=>⟨o,k b o hc e⟩) (fun _ _ e=>e) (fun _ _ _ e=>e) (fun b ps e=>⟨#[],by rw[e];simp⟩) (fun m hm=>?_) (fun b u e=>?_) I.bare
 ·obtain⟨o,es,ep,ho,r⟩:=hm
  exact⟨o,es,ep,k _ o (fun z=>(hf _ z).2.1 rfl) ho,r⟩
 ·refine(I.hok b u e).stay (fun c v hc q=>k c v ?_ q) (fun _ q=>q) fun _ _ q=>q
  rcases hc with z | z
  ·rw[z];exact nit b u e
  ·exact nit c _ z
def Itz (K:Frag)(a b:Addr):It :=
 {go:=fun i H=>∃xs ys x y,zP K H a xs/\zP K H b ys/\xs[i]?=some x/\ys[i]?=some y
  R7:=fun i H v H'=>∃q x y,(∀xs,zP K H a xs->xs[i]?=some x)/\(∀ys,zP K H b ys->ys[i]?=some y)/\v=.ref q/\H q=none/\H'=upd H q (.tup [x,y])
  stop:=fun i H=>∃xs ys,zP K H a xs/\zP K H b ys/\(xs.length<=i\/ys.length<=i) }
theorem zjt {P:Program}{w:World}{K:Frag}{els:List Expr}{x1}{pt:Pos}(a b z ti to i1 i2:Addr)(D:ZipApart z ti to i1 i2 a b):Turn P w K (.Tuple els x1 pt) (Itz K a b) [z,ti,to,i1,i2] z
  (fun i h=>IsZip h z ti to .none/\IsPair h ti (.ref i1) (.ref i2)/\(∃u v,IsPair h to u v)/\h.IsListIter i1 a i/\h.IsListIter i2 b i) where
 mem:=by simp
 obj:=fun i h st c hc=>by
  obtain⟨q1,q2,⟨u,v,q3⟩,⟨o4,q4,c4,d4⟩,⟨o5,q5,c5,d5⟩⟩:=st
  simp only[List.mem_cons,ztT,or_false] at hc
  rcases hc with e | e | e | e | e<;>subst e
  ·exact⟨_,q1,fun v hv=>by cases hv⟩
  ·exact⟨_,q2,fun v hv=>by cases hv⟩
  ·exact⟨_,q3,fun v hv=>by cases hv⟩
  ·exact⟨_,q4,fun v hv=>by rw[d4] at hv;cases hv⟩
  ·exact⟨_,q5,fun v hv=>by rw[d5] at hv;cases hv⟩
 keep:=fun i h h' st k=>by
  obtain⟨q1,q2,⟨u,v,q3⟩,q4,q5⟩:=st
  exact⟨k z (by simp) _ q1,k ti (by simp) _ q2,⟨u,v,k to (by simp) _ q3⟩,q4.at fun o e=>k i1 (by simp) o e,q5.at fun o e=>k i2 (by simp) o e⟩
 item:=by
  intro X hP hw hK hc i pins s σ H E I hf st hg
  subst hP hw hK
  obtain⟨xs,ys,x,y,hq1,hq2,hx,hy⟩:=hg
  obtain⟨q1,q2,⟨u0,v0,q3⟩,q4,q5⟩:=st
  obtain⟨zfU,rv1,pl1,hz1⟩:=I.list hq1
  obtain⟨its2,rv2,pl2,hz2⟩:=I.list hq2
  obtain⟨u,hu,ru⟩:=rv1.get hx
  obtain⟨v,hv,rv⟩:=rv2.get hy
  refine wpAny_pyNext_zip_item D q1 q2 q3 q4 q5 pl1.isList pl2.isList (x:=u) (y:=v) (by simpa using hu) (by simpa using hv) fun h1 out pto it1 it2 tup sz k1=>?_
  refine⟨.ref s.heap.objs.size,rfl,wpAny_letOwnedTupleGo_zip out fun h2 he2 sb=>?_⟩
  have ltz:=ztz q1
  have ltf:∀c∈[z,ti,to,i1,i2],c<s.heap.objs.size:=fun c hc=>by
   simp only[List.mem_cons,ztT,or_false] at hc
   rcases hc with e | e | e | e | e<;>subst e
   ·exact ltz
   ·exact ztz q2
   ·exact ztz q3
   ·obtain⟨o,e,_⟩:=q4;exact ztz e
   ·obtain⟨o,e,_⟩:=q5;exact ztz e
  have k2:∀c o,c∉[z,ti,to,i1,i2]->s.heap.get? c=some o->h2.get? c=some o:=fun c o hc q=>by
   simp only[List.mem_cons,ztT,or_false,not_or] at hc
   obtain⟨c1,c2,c3,c4,c5⟩:=hc
   exact(sb.2 c c1).trans (k1 c o c1 c3 c4 c5 q)
  have it1':h2.IsListIter i1 a (i+1):=it1.at fun o e=>(sb.2 i1 D.i1z).trans e
  have it2':h2.IsListIter i2 b (i+1):=it2.at fun o e=>(sb.2 i2 D.i2z).trans e
  have hti:IsPair h2 ti (.ref i1) (.ref i2):=(sb.2 ti D.TIz).trans (k1 ti _ D.TIz D.TITO D.TIi1 D.TIi2 q2)
  have hto:IsPair h2 to u v:=(sb.2 to D.TOz).trans pto
  have J1:Inv X pins σ H { s with heap:=h2,toks:=s.toks }:=I.zc0 (fp:=[z,ti,to,i1,i2]) k2 (fun c hc=>by
   simp only[List.mem_cons,ztT,or_false] at hc
   rcases hc with e | e | e | e | e<;>subst e
   ·exact⟨_,he2⟩
   ·exact⟨_,hti⟩
   ·exact⟨_,hto⟩
   ·obtain⟨o,e,_⟩:=it1';exact⟨o,e⟩
   ·obtain⟨o,e,_⟩:=it2';exact⟨o,e⟩) hf
  have zi1:h2.get? s.heap.objs.size=some { cls:=.type "tuple", data:=.seq #[u,v] }:=(sb.2 _ (Nat.ne_of_gt ltz)).trans tup
  have ltc:∀y c,X.env.cells.lookup y=some c->c≠s.heap.objs.size:=fun y c q=>by
   obtain⟨v,o,z,_⟩:=I.cell y c q
   exact ztH (ztz z)
  have ltp:∀p∈X.pn++pins,p.1≠s.heap.objs.size:=fun p hp=>ztH (ztz (I.pin p hp).1)
  have J2:=J1.track (a:=s.heap.objs.size) (o:=.tup [x,y]) I.fresh (Ne.symm (ztH I.lt)) I.sz ltc ltp ⟨by show 2<=sizeLine;decide,[u,v],.cons ru (.cons rv .nil),⟨_,zi1,rfl,_,rfl⟩⟩
  refine⟨.ref s.heap.objs.size,_,J2,rfl,⟨_,x,y,fun zs hzs=>by rw[I.Wf hzs hq1];exact hx,fun zs hzs=>by rw[I.Wf hzs hq2];exact hy,rfl,I.fresh,rfl⟩,⟨he2,hti,⟨u,v,hto⟩,it1',it2'⟩,fun c hc=>?_⟩
  rw[zB (ztH (ltf c hc))]
  exact(hf c hc).1
 done:=by
  intro X hP hw hK hc i pins s σ H E I hf st hg
  subst hP hw hK
  obtain⟨xs,ys,hq1,hq2,hx⟩:=hg
  obtain⟨q1,q2,⟨u0,v0,q3⟩,q4,q5⟩:=st
  obtain⟨zfU,rv1,pl1,hz1⟩:=I.list hq1
  obtain⟨its2,rv2,pl2,hz2⟩:=I.list hq2
  have l1:=rv1.length
  have l2:=rv2.length
  refine wpAny_pyNext_zip_end (I.ok.hd hc) D q1 q2 q3 q4 q5 pl1.isList pl2.isList (by
   rcases hx with e | e
   ·left;simp;omega
   ·right;simp;omega) fun h' k=>⟨rfl,?_⟩
  refine I.zk1 (t':=s.toks) (fp:=[z,to,i1,i2]) (fun c o hc e=>?_) fun c hc=>hf c (by simp only[List.mem_cons,ztT,or_false] at hc ⊢;rcases hc with e | e | e | e<;>simp[e])
  simp only[List.mem_cons,ztT,or_false,not_or] at hc
  exact k c o hc.1 hc.2.1 hc.2.2.1 hc.2.2.2 e
 self:=fun _ _ _ _ _ st h=>wpAny_pyIter_zip st.1 h
section
variable {X:Cx}
def zpH (K:Frag)(ta:TA):TI:=fun σ H R=>ta σ H fun vs H1=>∃a b xs ys,vs=[.ref a,.ref b]/\zP K H1 a xs/\zP K H1 b ys/\R (Itz K a b) H1
theorem zju {l m:Expr}{ta:TA}{p pos:Pos}{els:List Expr}{x1}{pt:Pos}(hg:Gl X "zip")(hm:X.mg "zip"=none)(ha:PA X [l,m] ta)(hs:starEach [l,m] X.env=[(false,eval l X.env),(false,eval m X.env)]:=by rfl)(hs2:starEach [m] X.env=[(false,eval m X.env)]:=by rfl) :
  PI X (.Tuple els x1 pt) (.Call (.Name "zip" p) [l,m] [] pos) (zpH X.K ta):=by
 intro pins s σ H R I h
 refine Call_ (Wc I hg hm boot_zip (PyProof.Rows.callWith_type1 (wM (ha pos pins s σ H _ I h) fun us s1 ⟨vs,H1,I1,r1,q1⟩=>?_) (by rw[hs,hs2]) (by rw[hs2];rfl)))
 obtain⟨a,b,xs,ys,e,hq1,hq2,q⟩:=q1
 subst e
 obtain⟨u,v,rfl,ru,rv⟩:=vals2 r1
 cases ru
 cases rv
 obtain⟨zfU,rv1,pl1,hz1⟩:=I1.list hq1
 obtain⟨its2,rv2,pl2,hz2⟩:=I1.list hq2
 obtain⟨o1,e1,_⟩:=id pl1.isList
 obtain⟨o2,e2,_⟩:=id pl2.isList
 refine call_zip_2 pl1.isList pl2.isList fun h' hz hti hto it1 it2 hsz hk=>?_
 have J:Inv X pins σ H1 { s1 with heap:=h',toks:=s1.toks }:=I1.kept hk
 refine wpAny_pyIter_zip hz ?_
 refine⟨s1.heap.objs.size+4,[s1.heap.objs.size+4,s1.heap.objs.size+2,s1.heap.objs.size+3,s1.heap.objs.size,s1.heap.objs.size+1],_,_,H1,rfl,J,zjt a b _ _ _ _ _ (zipApart_new (ztz e1) (ztz e2)),⟨hz,hti,⟨_,_,hto⟩,it1,it2⟩,fun c hc=>?_,q⟩
 have gc:s1.heap.objs.size<=c:=by
  simp only[List.mem_cons,ztT,or_false] at hc
  rcases hc with z | z | z | z | z<;>rw[z]<;>omega
 exact I1.zd7 gc (I1.hok.fresh gc)
def zlW (K:Frag):R2:=fun x y H Q=>∃p q xs ys,x=.ref p/\y=.ref q/\zP K H p xs/\zP K H q ys/\xs.length+ys.length<=sizeLine/\∀l,H l=none->Q (.ref l) (upd H l (.lst (xs++ys)))
theorem U0:Uq X (binaryOp .Add) (zlW X.K):=by
 intro pins s σ H x y v u Q I rx ry h
 obtain⟨p,q,xs,ys,rfl,rfl,hp,hq,hz,h⟩:=h
 cases rx
 cases ry
 obtain⟨zfU,rv1,pl1,hz1⟩:=I.list hp
 obtain⟨its2,rv2,pl2,hz2⟩:=I.list hq
 obtain⟨⟨cls,dd,data,sl⟩,ho,hc,n,hd⟩:=id pl1.isList
 obtain⟨⟨cls2,dd2,data2,sl2⟩,ho2,hc2,n2,hd2⟩:=id pl2.isList
 simp only at hc hd hc2 hd2
 subst hc hd hc2 hd2
 have l1:=rv1.length
 have l2:=rv2.length
 have e:zfU.toArray++its2.toArray=(zfU++its2).toArray:=by simp
 refine concat_meets ⟨_,ho,rfl⟩ ⟨_,ho2,rfl⟩ noFill_list_add seq_list_add PySem.F.slot_list_add PySem.F.entry_list_add (PySem.F.args_list_add_2 _ _) (list_addW p q zfU.toArray its2.toArray n n2 dd dd2 sl sl2 (by simp;omega)) ⟨ho,ho2,?_⟩
 rw[e]
 refine⟨.ref s.heap.objs.size,_,I.laid (t':=s.toks) (o:=.lst (xs++ys)) (fun b o e=>zty _ e) (ztI _) ?_,rfl,h _ (I.hok.fresh (ztI _))⟩
 exact⟨by rw[ztA];exact hz,zfU++its2,0,rv1.append rv2,ztN _ rfl⟩
end
end L2
namespace L2
open PySem
section
variable {K:Frag}{a:Addr}{xs:List V}{σ:St}{js:List Nat}{te:TE}{H:Hp}{Qf:Addr->Hp->List V->Prop}
theorem zk2 (R:Nat->V->Prop)(hq:zP K H a xs)(hz:xs.length<=sizeLine)
  (hs:∀(i:Nat) x H',xs[i]?=some x->Same H H'->te (Zj σ js (some x)) H' fun v H3=>R i v/\Same H H3)
  (me:∀ σ H Q Q',(∀v H1,Q v H1->Q' v H1)->te σ H Q->te σ H Q')
  (hd:∀ys H' p,ys.length=xs.length->(∀(i:Nat) y,ys[i]?=some y->R i y)->Same H H'->H' p=none->Qf p H' ys) :
  ∃W:Nat->Nat->List V->Hp->Prop,(∃m,W 0 m [] H)/\∀i m ys H,W i m ys H ->
   ((KZ K a).stop i H/\∀p,H p=none->Qf p H ys) \/
   ((KZ K a).go i H/\ys.length<sizeLine/\∀x H',(KZ K a).R7 i H x H'->Sw (Zj σ js (some x)) H' fun b H2 =>
    if b=true then te (Zj σ js (some x)) H2 fun v H3=>∃m',m'<m/\W (i+1) m' (ys++[v]) H3 else ∃m',m'<m/\W (i+1) m' ys H2):=by
 refine zcX (fun i ys H'=>Same H H'/\ys.length=i/\∀(j:Nat) y,ys[j]?=some y->R j y) ⟨Same.refl _,rfl,fun j y e=>by simp at e⟩ hz ?_ ?_ (fun _ _ _ _ h q=>h _ _ q) me ?_
 ·rintro i ys H' hi ⟨g,e,r⟩
  exact⟨g.seq hq,by omega⟩
 ·rintro i x ys H' hx ⟨g,e,r⟩
  show te (Zj σ js (some x)) H' fun v H3=>Same H H3/\(ys++[v]).length=i+1/\∀(j:Nat) y,(ys++[v])[j]?=some y->R j y
  refine me _ _ _ _ (fun v H3 h3=>⟨h3.2,by rw[ztA,e];rfl,fun j y ey=>?_⟩) (hs i x H' hx g)
  by_cases hj:j<ys.length
  ·rw[ztZ hj] at ey
   exact r j y ey
  ·have lt:=(ztv.mp ey).1
   rw[ztA,zt0] at lt
   have ej:j=ys.length:=by omega
   subst ej
   simp at ey
   subst ey
   rw[e]
   exact h3.1
 ·rintro ys H' p ⟨g,e,r⟩ hp
  exact hd ys H' p e r g hp
end
end L2
namespace yU
open PySem L2 yF
def zfV (H0 H:Hp)(p:Addr)(r:List Bool):Prop:=H0 p=none/\H p=some (.lst (zX r))
end yU
namespace L2
open PySem
theorem zdh {X:Cx}{x y:Str}{px py pt:Pos}{x1:Nat}(hc:X.calm=true)(hN:X.N.Nodup)(h0:X.N[0]?=some x)(h1:X.N[1]?=some y)(hx:X.env.scope.names.lookup x=some .local)(hy:X.env.scope.names.lookup y=some .local):PG X (.Tuple [.Name x px,.Name y py] x1 pt) (zft X.K 2 (VR (Yg 0) (VR (Yg 1) zfs))) :=
 zcM hc (Y7 (z9 hN h0 (.inl hx) (.inr hx)) (Y7 (z9 hN h1 (.inl hy) (.inr hy)) JX))
end L2
namespace L2
open PySem PySem.Spec PyProof.Rows
structure zck (wO sc:Scope)(x y:Str)(fv:List Str):Prop where
 g:zee wO sc [x,y] fv
 hx:sc.names.lookup x=some .local
 hy:sc.names.lookup y=some .local
 nd:([x,y]++fv).Nodup
theorem zmQ {X:Cx}{sc wO:Scope}{x y:Str}{js:List Nat}{elt iter:Expr}{px py pt pos:Pos}{x1:Nat}{wi:TI}{te:TE}(Yj:X.env.scope=wO)(L:zck wO sc x y (js.map fun j=>X.N.getD j ""))(hc:X.calm=true)(hi:PI X (.Tuple [.Name x px,.Name y py] x1 pt) iter wi)(hjs:∀j∈js,j<X.N.length)
  (he:∀(cl:List (Str×Addr)) (C:Addr) (s₂:Shared) (H₂:Hp) (fp:List Addr),PE (X.blk sc cl C (Uw X [x,y] js) s₂ H₂ fp) elt te)
  (hs:∀x,foldedSetIterable iter X.env x=pure x:=by intro _;rfl) :
  PE X (.ListComp elt [⟨.Tuple [.Name x px,.Name y py] x1 pt,iter,[],0⟩] sc pos) (zkD wi [x,y] js (zft X.K 2 (VR (Yg 0) (VR (Yg 1) zfs))) Sw te) :=
 zjs Yj L.g hc hi (fun cl C s₂ H₂ fp=>zdh (X:=X.blk sc cl C (Uw X [x,y] js) s₂ H₂ fp) hc L.nd rfl rfl (lookup_relabel_local L.hx) (lookup_relabel_local L.hy)) hjs (fun cl C s₂ H₂ fp pins s' σ' H' Q I h=>wpAny_pure ⟨H',I,h⟩) he hs
section
variable {X:Cx}{K:Frag}
theorem zbA (h:X.K=K):uW X (.type "list") (fun xs H Q=>∃p ys,xs=[.ref p]/\(zP K H p ys\/wG K H p ys)/\∀l,H l=none->Q (.ref l) (upd H l (.lst ys))):=by subst h;exact Uu
end
end L2
namespace yU
open PySem L2 yF
def Zt (ns:List Int)(i:Nat):Int:=(ns[i]?).getD 0
inductive zaa (K:Frag)(vs:List V)(H:Hp)(Q:VK)(E9:XK):Prop
 | mk (l:Addr) (ns:List Int) (i:Nat) (_:vs=[.ref l,.int i]) (_:zP K H l (ns.map V.int)) (_:Q (.int (Zt ns i)) H):zaa K vs H Q E9
end yU
namespace L2
theorem zpI {σ:St}{H:Hp}{Q:Bool->Hp->Prop}(h:Q true H):Sw σ H Q:=h
end L2
namespace yU
open PySem L2 yF
theorem Sn.zeu:∀s:Sn,s.count+1<=2^s.depth:=by
 have key:∀(d:Nat) (s:Sn),s.depth<=d->s.count+1<=2^d:=by
  intro d
  induction d with
  | zero=>intro s h;have:=Sn.Qc s;omega
  | succ d ih =>
   intro s h
   have hp:=Sn.K6 s
   have hl:=Sn.Mh s
   have hd:=Sn.Sy s
   have hc:∀t∈s.parts,t.count+1<=2^d:=fun t ht=>ih t (by have:=hd t ht;omega)
   have p1:1<=2^d:=Nat.one_le_two_pow
   rw[Nat.pow_succ,hp]
   match hs:s.parts,hl with
   | [],_=>simp;omega
   | [a],_ =>
    have:=hc a (by rw[hs];simp)
    simp;omega
   | [a,b],_ =>
    have h1:=hc a (by rw[hs];simp)
    have h2:=hc b (by rw[hs];simp)
    simp;omega
   | a::b::c::r,h=>simp at h
 exact fun s=>key _ s (ztI _)
end yU
namespace L2
open PySem
theorem zfW:bootBuiltins "max"=some (.builtin "max"):=by decide +kernel
theorem zmR:bootBuiltins "min"=some (.builtin "min"):=by decide +kernel
theorem zew {xs:List V}{n:Nat}:QD xs (some (n:Int)) none=xs.drop n:=by
 unfold QD
 rw[HT.R8,HT.zam]
 by_cases h:n<=xs.length
 ·rw[Nat.min_eq_left h]
  exact List.take_of_length_le (by rw[List.length_drop];omega)
 ·rw[Nat.min_eq_right (by omega),List.drop_eq_nil_of_le (ztI _),List.drop_eq_nil_of_le (by omega)]
  simp
end L2
namespace yU
open PySem L2 yF
theorem zha {r:List Bool}{i:Nat}(h:i<r.length)(v:Bool):(zX r).take i++[V.int (v.toNat:Nat)]++(zX r).drop (i+1)=zX (r.set i v):=by
 rw[<-zjh,List.set_eq_take_append_cons_drop]
 rw[if_pos (by rw[zts];exact h)]
 simp
theorem zpJ:w2 0=Str.ofString "and" := rfl
theorem zpK:w2 1=Str.ofString "or" := rfl
theorem zpL:w2 2=Str.ofString "either" := rfl
theorem zpM:w2 3=Str.ofString "if" := rfl
theorem zn2 {A B C D:V}(o:Fin 4):Zx (Yo [] ([(Sum.inr "and", A),(Sum.inr "or", B),(Sum.inr "either", C),(Sum.inr "if", D)]:List (Key×V))) (Sum.inr (w2 o):Key)=some (match o with | 0=>A | 1=>B | 2=>C | 3=>D):=by
 have ne:∀{x y:Str},x≠y->¬((Sum.inr x:Key)=Sum.inr y):=fun h z=>h (Sum.inr.inj z)
 show Zx (putK (putK (putK (putK ([]:List (Key×V)) (Sum.inr "and") A) (Sum.inr "or") B) (Sum.inr "either") C) (Sum.inr "if") D) (Sum.inr (w2 o))=_
 rcases zmK o with e | e | e | e<;>subst e
 ·rw[zpJ,wX,if_neg (ne (by decide +kernel)),wX,if_neg (ne (by decide +kernel)),wX,if_neg (ne (by decide +kernel)),wX,if_pos rfl]
 ·rw[zpK,wX,if_neg (ne (by decide +kernel)),wX,if_neg (ne (by decide +kernel)),wX,if_pos rfl]
 ·rw[zpL,wX,if_neg (ne (by decide +kernel)),wX,if_pos rfl]
 ·rw[zpM,wX,if_pos rfl]
def zhX (x:Addr)(H0 H:Hp)(p:Addr)(r:List Bool):Prop:=H0 p=none/\p≠x/\H p=some (.lst (zX r))
theorem zaG {x:Addr}{H0 H H':Hp}{ps:List Addr}{es:List (List Bool)}(h:Paired (zhX x H0 H) ps es)(g:Same H H'):Paired (zhX x H0 H') ps es:=wJ (fun _ _ r=>⟨r.1,r.2.1,g _ _ r.2.2⟩) h
theorem zcl {x:Addr}{H0 H:Hp}{ps:List Addr}{es:List (List Bool)}{o:HO}(h:Paired (zhX x H0 H) ps es):Paired (zhX x H0 (upd H x o)) ps es:=wJ (fun _ _ r=>⟨r.1,r.2.1,by rw[zB r.2.1];exact r.2.2⟩) h
inductive V6 (vs:List V)(H:Hp)(Q:VK)(E9:XK):Prop
 | mk (n:Nat) (_:vs=[.int n]) (_:n<=8) (_:∀(l:Addr) (H':Hp) (ps:List Addr),Same H H'->H l=none->H' l=some (.lst (ps.map V.ref))->Paired (zfV H H') ps (allR n)->Q (.ref l) H'):V6 vs H Q E9
inductive zaH (K:Frag)(vs:List V)(H:Hp)(Q:VK)(E9:XK):Prop
 | mk (p l:Addr) (s:Sn) (os:List Str) (_:vs=[.ref p,.ref l]) (_:T8 H s p) (_:zP K H l (os.map V.str)) (_:s.QF os) (_:os.length<=8) (_:s.depth<=20) (_:∀(yl:Addr) (H':Hp) (ps:List Addr),Same H H'->H yl=none->H' yl=some (.lst (ps.map V.ref))->Paired (zfV H H') ps ((allR os.length).filter fun r=>s.val (xG os (zu r)))->Q (.ref yl) H'):zaH K vs H Q E9
inductive Pz (K:Frag)(vs:List V)(H:Hp)(Q:VK)(E9:XK):Prop
 | mk (p q:Addr) (ns:List Int) (_:vs=[.ref p,.ref q]) (_:H p=some (.lst (ns.map V.int))) (_:zP K H q (ns.map V.int)) (_:ns.length<=1000) (_:∀H',Same H H'->Q (.bl true) H'):Pz K vs H Q E9
end yU
namespace L2
open PySem PySem.Spec PyProof.Rows
theorem zn3 {x:V}{p q:Prop}(h:q):if (!decide (x=x))=true then p else q:=by
 rw[decide_eq_true rfl]
 exact h
theorem zfX {x y:V}{p q:Prop}(e:x=y)(h:q):if (!decide (x=y))=true then p else q:=by
 subst e
 exact zn3 h
section
variable {X:Cx}
theorem Jc:∀{xs:List V} {us:List Value},xs.length=us.length->(∀(i:Nat) x u,xs[i]?=some x->us[i]?=some u->RelV x u)->Vals xs us
 | [],[],_,_=>.nil
 | [],_::_,h,_=>by cases h
 | _::_,[],h,_=>by cases h
 | x::xs,u::us,h,r=>.cons (r 0 x u rfl rfl) (Jc (Nat.succ.inj h) fun i x u hx hu=>r (i+1) x u hx hu)
def Jd (n:Nat):List V:=(List.range n).map fun i=>V.int (i:Nat)
def tLR (ta:TA):TE:=fun σ H Q=>ta σ H fun vs H1=>∃n:Nat,vs=[.int (n:Nat)]/\n<=1000000/\∀l,H1 l=none->Q (.ref l) (upd H1 l (.lst (Jd n)))
theorem zdi {e:Expr}{ta:TA}{p p2 pos pos2:Pos}(hc:X.calm=true)(hg:Gl X "list")(hm:X.mg "list"=none)(hg2:Gl X "range")(hm2:X.mg "range"=none)(ha:PA X [e] ta)
  (hs:starEach [e] X.env=[(false,eval e X.env)]:=by rfl)
  (hs2:starEach [.Call (.Name "range" p2) [e] [] pos2] X.env=[(false,eval (.Call (.Name "range" p2) [e] [] pos2) X.env)]:=by rfl) :
  PE X (.Call (.Name "list" p) [.Call (.Name "range" p2) [e] [] pos2] [] pos) (tLR ta):=by
 intro pins s σ H Q I h
 refine wpAny_Call_Name_kw (Wc I hg hm YC ?_ (by decide) (by decide))
 refine PyProof.Rows.callWith_type1 ?_ hs2 rfl
 rw[hs2]
 show wpAny _ _ (spliced ((false,eval (.Call (.Name "range" p2) [e] [] pos2) X.env)::[])) _ _ s
 refine Calls.spliced_cons ?_
 refine Call_ (Wc I hg2 hm2 boot_range (PyProof.Rows.callWith_type1 (wM (ha pos2 pins s σ H _ I h) fun us s1 ⟨vs,H1,I1,r1,q1⟩=>?_) hs rfl))
 obtain⟨n,e1,hn,q⟩:=q1
 subst e1
 obtain⟨u,rfl,ru⟩:=vals1 r1
 obtain⟨t,rfl⟩:=ru
 refine call_range_1 (Calls.spliced_nil ?_)
 refine call_list_range (n:=n) (I1.ok.hd hc) (IsRange.new ..) (small_one (by omega) (by omega) (by omega) (by omega)) (by rw[rangeSize_one];split<;>omega) (by omega) fun h' tk acc' c' kp e0 ac=>?_
 have I2:=I1.kept (t':=s1.toks+1+1) (h':=s1.heap.push { cls:=.type "range", data:=.fields #[.int 0 s1.toks,.int n t,.int 1 (s1.toks+1)] }) fun b o e=>zty _ e
 have hl:acc'.size=n:=ac.1
 have rv:Vals (Jd n) acc'.toList:=by
  refine Jc (by simp[Jd,hl]) fun i x u hx hu=>?_
  have hi:i<n:=by
   have:=(ztv.mp hx).1
   simpa [Jd] using this
  unfold Jd at hx
  rw[ztu,List.getElem?_range hi] at hx
  cases hx
  obtain⟨t',rfl⟩:=ac.2 i u (by simpa using hu)
  exact⟨t',by simp⟩
 exact⟨.ref _,_,I2.laid (t':=tk) (o:=.lst (Jd n)) kp (ztI _) ⟨by unfold Jd;rw[zts,ztK];exact ztO hn (by decide),acc'.toList,c',rv,by simpa using e0⟩,rfl,q _ (I2.hok.fresh (ztI _))⟩
end
end L2
namespace yF
open yU
def anyB (n:Nat)(f:Nat->Bool):Bool:=(List.range (2^n)).any f
theorem anyB_iff {n:Nat}{f:Nat->Bool}:anyB n f=true↔∃b,b<2^n/\f b=true:=by
 unfold anyB
 rw[List.any_eq_true]
 exact⟨fun⟨b,h,e⟩=>⟨b,List.mem_range.mp h,e⟩,fun⟨b,h,e⟩=>⟨b,List.mem_range.mpr h,e⟩⟩
theorem ZC {n N:Nat}{f:Nat->Bool}(h:zV n N f):decide (N=0)=!anyB n f:=by
 by_cases e:N=0
 ·subst e
  rw[decide_eq_true rfl]
  cases hb:anyB n f with
  | false=>rfl
  | true =>
   obtain⟨b,hb,e⟩:=anyB_iff.mp hb
   have:=ZM h hb
   rw[e,Nat.zero_testBit] at this
   cases this
 ·rw[decide_eq_false e]
  cases hb:anyB n f with
  | true=>rfl
  | false =>
   exfalso
   refine e (Nat.eq_of_testBit_eq fun i=>?_)
   rw[h i,Nat.zero_testBit]
   by_cases hi:i<2^n
   ·cases hf:f i with
    | false=>rw[Bool.and_false]
    | true=>rw[anyB_iff.mpr ⟨i,hi,hf⟩] at hb;cases hb
   ·rw[decide_eq_false hi];rfl
def fvP (n:Nat):(Nat->Bool)->List Nat->List Bool
 | _,[]=>[]
 | f,p::ps=>(!anyB n fun b=>f (zM b p false))::fvP n (fun b=>f (zM b p (!anyB n fun b=>f (zM b p false)))) ps
def mix:Nat->List Bool->Nat->Nat
 | _,[],b=>b
 | i,v::r,b=>zM (mix (i+1) r b) i v
theorem Mr:∀(r:List Bool) (i:Nat) (v:Bool) (b:Nat),mix i (r++[v]) b=mix i r (zM b (i+r.length) v)
 | [],i,v,b=>rfl
 | u::r,i,v,b=>by
  show zM (mix (i+1) (r++[v]) b) i u=zM (mix (i+1) r (zM b (i+(r.length+1)) v)) i u
  rw[Mr r (i+1) v b,show i+1+r.length=i+(r.length+1) by omega]
theorem zjv {n:Nat}:∀(r:List Bool) (i b:Nat),i+r.length<=n->b<2^n->mix i r b<2^n
 | [],i,b,_,hb=>hb
 | v::r,i,b,h,hb=>by
  rw[ztE] at h
  exact zT (zjv r (i+1) b (by omega) hb) (by omega)
theorem zhb:∀(r:List Bool) (i b j:Nat),i<=j->j<i+r.length->(mix i r b).testBit j=r.getD (j-i) false
 | [],i,b,j,h1,h2=>by rw[List.length_nil] at h2;omega
 | v::r,i,b,j,h1,h2=>by
  show(zM (mix (i+1) r b) i v).testBit j=_
  rw[zQ]
  by_cases e:j=i
  ·subst e
   rw[if_pos rfl,Nat.sub_self]
   rfl
  ·rw[ztE] at h2
   rw[if_neg e,zhb r (i+1) b j (by omega) (by omega)]
   obtain⟨m,rfl⟩:∃m,j=i+1+m:=⟨j-(i+1),by omega⟩
   rw[show i+1+m-(i+1)=m by omega,show i+1+m-i=m+1 by omega]
   rfl
theorem zhc {n:Nat}{r:List Bool}{b:Nat}(hl:r.length=n)(hb:b<2^n):mix 0 r b=zu r:=by
 have hr:=Yl r
 rw[hl] at hr
 refine ZL (zjv r 0 b (by omega) hb) hr fun i hi=>?_
 rw[zhb r 0 b i (ztP _) (by omega),xQ,Nat.sub_zero,ztF]
def Jz (n:Nat)(f:Nat->Bool):Nat->List Bool
 | 0=>[]
 | i+1=>Jz n f i++[!anyB n fun b=>f (mix 0 (Jz n f i++[false]) b)]
theorem zex (n:Nat)(f:Nat->Bool):∀i,(Jz n f i).length=i
 | 0=>rfl
 | i+1=>by show(_++[_]).length=_;rw[ztA,zex n f i];rfl
theorem zcm (n:Nat)(f:Nat->Bool):∀(m i:Nat),Jz n f (i+m)=Jz n f i++fvP n (fun b=>f (mix 0 (Jz n f i) b)) (List.range' i m)
 | 0,i=>by show _=_++[];rw[List.append_nil];rfl
 | m+1,i=>by
  have hl:=zex n f i
  have e1:∀v b,mix 0 (Jz n f i) (zM b i v)=mix 0 (Jz n f i++[v]) b:=fun v b=>by rw[Mr,hl,Nat.zero_add]
  rw[show i+(m+1)=i+1+m by omega,zcm n f m (i+1),List.range'_succ]
  show(Jz n f i++[_])++_=Jz n f i++(_::_)
  rw[List.append_assoc]
  simp only[e1]
  rfl
theorem zhY (n:Nat)(f:Nat->Bool):fvP n f (List.range n)=Jz n f n:=by
 have:=zcm n f n 0
 rw[Nat.zero_add] at this
 rw[this,List.range_eq_range']
 rfl
theorem zcn {p q:List Bool->Bool}:∀{l:List (List Bool)} {x:List Bool},(∀r∈l,p r=(q (r++[false])||q (r++[true])))->(l.filter p).head?=some x ->
  ((l.flatMap fun r=>[r++[false],r++[true]]).filter q).head?=some (x++[!q (x++[false])])
 | [],x,_,h=>by cases h
 | r::l,x,hp,h=>by
  have hr:=hp r ztM
  rw[List.flatMap_cons,zt6]
  cases hpr:p r with
  | true =>
   rw[List.filter_cons_of_pos hpr] at h
   have ex:r=x:=ztX h
   subst ex
   rw[hpr] at hr
   cases h0:q (r++[false]) with
   | true=>rw[List.filter_cons_of_pos h0];rfl
   | false =>
    rw[h0,Bool.false_or] at hr
    rw[List.filter_cons_of_neg (by rw[h0];exact ztw),List.filter_cons_of_pos hr.symm]
    rfl
  | false =>
   rw[List.filter_cons_of_neg (by rw[hpr];exact ztw)] at h
   rw[hpr] at hr
   have h0:q (r++[false])=false:=by cases hh:q (r++[false]) with | false=>rfl | true=>rw[hh] at hr;cases hr
   have h1:q (r++[true])=false:=by cases hh:q (r++[true]) with | false=>rfl | true=>rw[hh,Bool.or_true] at hr;cases hr
   rw[List.filter_cons_of_neg (by rw[h0];exact ztw),List.filter_cons_of_neg (by rw[h1];exact ztw)]
   exact zcn (fun r' hr'=>hp r' (ztD _ hr')) h
theorem zey {n:Nat}{f:Nat->Bool}(h:anyB n f=true):∀i,i<=n->((allR i).filter fun r=>anyB n fun b=>f (mix 0 r b)).head?=some (Jz n f i)
 | 0,_=>by
  show(List.filter _ [[]]).head?=_
  have e:(anyB n fun b=>f (mix 0 [] b))=true:=h
  rw[List.filter_cons_of_pos (p:=fun r=>anyB n fun b=>f (mix 0 r b)) e]
  rfl
 | i+1,hi=>by
  refine zcn (fun r hr=>?_) (zey h i (by omega))
  have hl:=vQ i r hr
  rw[zt8,Bool.or_eq_true,anyB_iff,anyB_iff,anyB_iff]
  constructor
  ·rintro⟨b,hb,e⟩
   have e2:mix 0 (r++[b.testBit i]) b=mix 0 r b:=by rw[Mr,Nat.zero_add,hl,yD]
   cases hv:b.testBit i with
   | false=>rw[hv] at e2;exact .inl ⟨b,hb,by rw[e2];exact e⟩
   | true=>rw[hv] at e2;exact .inr ⟨b,hb,by rw[e2];exact e⟩
  ·rintro (⟨b,hb,e⟩ | ⟨b,hb,e⟩)<;>rw[Mr,Nat.zero_add,hl] at e<;>exact⟨_,zT hb (by omega),e⟩
theorem zfY {n:Nat}{f:Nat->Bool}(h:anyB n f=true):((allR n).filter fun r=>f (zu r)).head?=some (fvP n f (List.range n)):=by
 rw[zhY,<-zey h n (ztI _)]
 congr 1
 refine List.filter_congr fun r hr=>?_
 have hl:=vQ n r hr
 rw[zt8,anyB_iff]
 constructor
 ·intro e
  exact⟨0,Nat.two_pow_pos n,by rw[zhc hl (Nat.two_pow_pos n)];exact e⟩
 ·rintro⟨b,hb,e⟩
  rw[zhc hl hb] at e
  exact e
end yF
namespace yU
open PySem L2 yF
theorem zjw {r t:List Bool}(h:zX r=zX t):r=t:=by
 unfold zX at h
 refine List.map_inj_right (f:=fun b:Bool=>V.int (b.toNat:Nat)) (fun a b e=>?_) |>.mp h
 cases a<;>cases b<;>first | rfl | (injection e with e;cases e)
inductive Vt (K:Frag)(vs:List V)(H:Hp)(Q:VK)(E9:XK):Prop
 | mk (N n:Nat) (f:Nat->Bool) (pl:Addr) (ps:List Nat) (_:vs=[.int N,.ref pl,.int n]) (_:n<=8) (_:zV n N f) (_:zP K H pl (ps.map fun p=>V.int (p:Nat))) (_:(∀p∈ps,p<n)) (_:ps.length<=1000) (_:∀(l:Addr) (H':Hp),Same H H'->H l=none->H' l=some (.lst (zX (fvP n f ps)))->Q (.ref l) H'):Vt K vs H Q E9
inductive PB (vs:List V)(H:Hp)(Q:VK)(E9:XK):Prop
 | mk (N n:Nat) (f:Nat->Bool) (_:vs=[.int N,.int n]) (_:n<=8) (_:zV n N f) (_:anyB n f=true) (_:∀(l:Addr) (H':Hp) (r:List Bool),Same H H'->H l=none->H' l=some (.lst (zX r))->((allR n).filter fun r=>f (zu r)).head?=some r->Q (.ref l) H'):PB vs H Q E9
end yU
namespace L2
open PySem PySem.Spec PyProof.Rows
theorem zco:∀{ss:List Str} {its:List Value},StrsAre its ss->Vals (ss.map V.str) its
 | _,_,.nil=>.nil
 | _,_,.cons x t h=>.cons ⟨t,rfl⟩ (zco h)
section
variable {X:Cx}
def tLV (to:TE):TE:=fun σ H Q=>to σ H fun x H1=>∃(d:Addr) (kvs:List (Key×V)),x=.ref d/\H1 d=some (.dK kvs)/\∀l,H1 l=none->Q (.ref l) (upd H1 l (.lst (kvs.map (·.2))))
theorem Je {o:Expr}{to:TE}{p apos cpos pos:Pos}(hc:X.calm=true)(hg:Gl X "list")(hm:X.mg "list"=none)(ho:PE X o to)
  (hbase:attributeBase o "values" X.env (eval o X.env)=eval o X.env:=by rfl)(hline:(apos.endLine==cpos.line)=true:=by rfl)
  (hs2:starEach [.Call (.Attribute o "values" apos) [] [] cpos] X.env=[(false,eval (.Call (.Attribute o "values" apos) [] [] cpos) X.env)]:=by rfl) :
  PE X (.Call (.Name "list" p) [.Call (.Attribute o "values" apos) [] [] cpos] [] pos) (tLV to):=by
 intro pins s σ H Q I h
 refine wpAny_Call_Name_kw (Wc I hg hm YC ?_ (by decide) (by decide))
 refine PyProof.Rows.callWith_type1 ?_ hs2 rfl
 rw[hs2]
 show wpAny _ _ (spliced ((false,eval (.Call (.Attribute o "values" apos) [] [] cpos) X.env)::[])) _ _ s
 refine Calls.spliced_cons ?_
 refine wpAny_Call_method0_late hbase hline (wM (ho pins s σ H _ I h) fun v s1 ⟨x,H1,I1,r1,q1⟩=>?_)
 obtain⟨d,kvs,rfl,hd,q⟩:=q1
 obtain⟨h1,h2⟩:=zfI (T := "dict") I1 r1 (.inr (.inr (.inl ⟨rfl,.inl ⟨kvs,hd⟩⟩)))
 cases r1
 obtain⟨hz,lo,vs,rv,hD⟩:=(show kvs.length<=sizeLine/\(d==sysModules)=false/\∃vs,KV kvs vs/\s1.heap.DictOf (yd X.prog X.w) d vs from I1.hok d _ hd)
 obtain⟨ep,hat⟩:=hD.dictAt
 have hl:kvs.length=vs.length:=Paired.length rv
 refine⟨"dict", "dict.values", PySem.F.plainAttrs_dict,PySem.F.slot_dict_values,PySem.F.type_dict_values,h1,h2,Calls.callWith_builtin rfl (PySem.evalArgs_none ?_)⟩
 refine call_meetsIn PySem.F.slot_dict_values hD.typeIs PySem.F.entry_dict_values (PySem.F.args_dict_values_1 _) (meets_dict_values (yd X.prog X.w) d lo) ⟨⟨vs,hD⟩,Calls.spliced_nil ?_⟩
 have I2:=I1.kept (t':=s1.toks) (h':=s1.heap.push { cls:=.type "dict_values", data:=.fields #[.ref d] }) fun b o e=>zty _ e
 obtain⟨hz2,lo2,vs2,rv2,hD2⟩:=(show kvs.length<=sizeLine/\(d==sysModules)=false/\∃vs,KV kvs vs/\(s1.heap.push { cls:=.type "dict_values", data:=.fields #[.ref d] }).DictOf (yd X.prog X.w) d vs from I2.hok d _ hd)
 obtain⟨ep2,zjx⟩:=hD2.dictAt
 have hl2:kvs.length=vs2.length:=Paired.length rv2
 refine PySem.W.kdl_call (PySem.W.kdl_values (knd:=yd X.prog X.w) (r:=s1.heap.objs.size) (d:=d) (kvs:=vs2) (ep:=ep2)) (I1.ok.hd hc) ⟨⟨_,ztN _ rfl,rfl,rfl⟩,zjx⟩ (by omega) fun h' tk acc c hk hS hacc=>?_
 refine⟨.ref _,_,I2.laid (t':=tk) (o:=.lst (kvs.map (·.2))) hk (ztI _) ?_,rfl,q _ (I2.hok.fresh (ztI _))⟩
 refine⟨by rw[zts];exact hz,acc.toList,c,?_,by simpa using hS⟩
 refine zaE (by rw[zts];have:=hacc.1;simp;omega) fun j v hv=>?_
 obtain⟨k,hx⟩:=hacc.2 j v (by rw[<-Array.getElem?_toList];exact hv)
 obtain⟨y,hy,e1,e2⟩:=K8 rv2 hx
 exact⟨y.2,by rw[ztu,hy];rfl,e2⟩
end
end L2
namespace yU
open PySem L2 yF PyProof.Rows
theorem zez {x:Str}{l:List Str}(h:sortedS (x::l)=true):sortedS l=true:=by
 cases l with
 | nil=>rfl
 | cons y l =>
  have h':(!Spec.ltCps y.cps.toList x.cps.toList&&risingS y l)=true:=h
  exact(ztU _ _ ▸ h').2
end yU
namespace L2
open PySem PySem.Spec PyProof.Rows PySem.Builtin PySem.Builtin.Str
section
variable {X:Cx}
def zdj (b:Bool):Str:=⟨#[yU.chc b]⟩
theorem zcp:uW X (.type "str") (fun xs H Q=>∃b:Bool,xs=[.int (b.toNat:Nat)]/\Q (.str (zdj b)) H):=by
 intro pins s σ H xs us Q I r h
 obtain⟨b,rfl,q⟩:=h
 obtain⟨u,rfl,ru⟩:=vals1 r
 obtain⟨t,rfl⟩:=ru
 have e:∀b:Bool,((toString ((b.toNat:Nat):Int):String):Str)=zdj b:=by decide +kernel
 refine PySem.P.str_of_int (by cases b<;>decide) ?_
 rw[e b]
 exact⟨.str (zdj b),H,I.tok _,⟨_,rfl⟩,q⟩
end
end L2
namespace yF
open PySem yU
def upR (n:Nat)(x:Rm):Bool:=match x with | some (i,_,_)=>decide (i+2<n) | none=>false
def hiN (n:Nat)(rs:List Rm):Nat:=(rs.filter (upR n)).length
theorem zk3 {n:Nat}{rs:List Rm}{p lo hi:Nat}:hiN n (rs++[some (p,lo,hi)])=hiN n rs+if p+2<n then 1 else 0:=by
 unfold hiN
 rw[zt6,ztA]
 congr 1
 by_cases h:p+2<n
 ·rw[if_pos h,List.filter_cons_of_pos (show upR n (some (p,lo,hi))=true from decide_eq_true h)]
  rfl
 ·rw[if_neg h,List.filter_cons_of_neg (show ¬upR n (some (p,lo,hi))=true from fun z=>h (of_decide_eq_true z))]
  rfl
def bH (n u:Nat):Nat:=2^(n-2-u)-1
theorem zk4 {n u p:Nat}(h:u<=p):bH n (p+1)+bH n (p+1)+(if p+2<n then 1 else 0)<=bH n u:=by
 unfold bH
 by_cases hp:p+2<n
 ·rw[if_pos hp]
  have e:n-2-p=(n-2-(p+1))+1:=by omega
  have m:2^(n-2-p)<=2^(n-2-u):=ztY (by decide) (by omega)
  have p1:1<=2^(n-2-(p+1)):=Nat.one_le_two_pow
  rw[e,Nat.pow_succ] at m
  omega
 ·rw[if_neg hp,show n-2-(p+1)=0 by omega]
  show 1-1+(1-1)+0<=_
  omega
theorem zpO {n:Nat}(h:n<=8):bH n 0<=63:=by
 have:2^(n-2-0)<=2^6:=ztY (by decide) (by omega)
 have e:2^6=64:=rfl
 unfold bH
 omega
end yF
namespace yU
open PySem L2 yF
section
variable (C:Addr)(K:Frag)
inductive Xa (d:Nat)(vs:List V)(H:Hp)(Q:VK)(E9:XK):Prop
 | mk (b:Addr) (os:List Str) (rs:List Rm) (F:ZK) (t u:Nat) (f:Nat->Bool) (_:vs=[.ref b,.int t]) (_:yP C H b os rs F) (_:rs.length+2^d<=9000000) (_:u<=os.length) (_:os.length+1<=u+d) (_:zV os.length t f) (_:(∀i,i<u->Free os.length f i)) (_:∀(k:Nat) (rs':List Rm) (H':Hp),zmO F H H'->yN H H'->yP C H' b os rs' F->uy rs rs'->k<rs'.length->(∀r,yes rs' k r=f (bits r os.length))->rs'.length+1<=rs.length+2^d->(∀j,rs.length<=j->j<rs'.length->u<=Ke os.length rs' j)->hiN os.length rs'<=hiN os.length rs+bH os.length u->Q (.int (k:Nat)) H'):Xa d vs H Q E9
def zn4 (b:Addr)(os:List Str)(H:Hp)(rs:List Rm)(F:ZK)(f:Row->Bool)(Q:VK):Prop:=∀(k:Nat) (rs':List Rm) (H':Hp),zmO F H H'->yN H H'->yP C H' b os rs' F->uy rs rs'->Means rs' k f->hiN os.length rs'<=hiN os.length rs+63->Q (.int (k:Nat)) H'
inductive zaI (vs:List V)(H:Hp)(Q:VK)(E9:XK):Prop
 | mk (b p:Addr) (os:List Str) (rs:List Rm) (F:ZK) (s:Sn) (_:vs=[.ref b,.ref p]) (_:yP C H b os rs F) (_:rs.length<=8000000) (_:T8 H s p) (_:s.QF os) (_:s.count<=200) (_:s.depth<=24) (_:zn4 C b os H rs F (fun r=>s.val (znZ os r)) Q):zaI vs H Q E9
end
structure zhZ (C:Addr)(H0:Hp)(b:Addr)(os:List Str)(m:Nat)(H:Hp)(rs:List Rm)(F:ZK):Prop where
 same:Same H0 H
 away:∀x,F x->H0 x=none
 bk:yP C H b os rs F
 hi:hiN os.length rs<=m
end yU
namespace L2
open PySem PySem.Spec PyProof.Rows
theorem zk5 {K:Frag}{a b:Addr}{xs ys:List V}{g:TG}{tb:TS}{D:Ends}{σ:St}{H:Hp}(hlen:xs.length=ys.length)(Pv:Nat->St->Hp->Prop)(h0:Pv 0 σ H)(hl:∀i σ H,i<=xs.length->Pv i σ H->zP K H a xs/\zP K H b ys)
  (hs:∀i x y σ H p,xs[i]?=some x->ys[i]?=some y->Pv i σ H->H p=none->g (.ref p) σ (upd H p (.tup [x,y])) fun σ2 H2=>tb { D with nx:=Pv (i+1),ct:=Pv (i+1),bk:=D.nx } σ2 H2)(hd:∀ σ H,Pv xs.length σ H->D.nx σ H) :
  ∃W:Nat->Nat->St->Hp->Prop,(∃m,W 0 m σ H)/\∀i m σ H,W i m σ H ->
   ((Itz K a b).stop i H/\D.nx σ H)\/((Itz K a b).go i H/\∃N:St->Hp->Prop,(∀ σ' H',N σ' H'->∃m',m'<m/\W (i+1) m' σ' H')/\∀x H',(Itz K a b).R7 i H x H'->g x σ H' fun σ2 H2=>tb { D with nx:=N,ct:=N,bk:=D.nx } σ2 H2):=by
 refine⟨fun i m σ H=>m=xs.length-i/\i<=xs.length/\Pv i σ H,⟨xs.length,by simp,ztP _,h0⟩,?_⟩
 rintro i m σ H ⟨rfl,hi,p⟩
 obtain⟨q,q'⟩:=hl i σ H hi p
 by_cases hlt:i<xs.length
 ·refine .inr ⟨⟨xs,ys,_,_,q,q',ztt hlt,ztt (l:=ys) (i:=i) (by omega)⟩,Pv (i+1),fun σ' H' p'=>⟨xs.length-(i+1),by omega,rfl,hlt,p'⟩,fun x H' y=>?_⟩
  obtain⟨pp,u,v,hu,hv,rfl,hn,rfl⟩:=y
  exact hs i u v σ H pp (hu xs q) (hv ys q') p hn
 ·have e:i=xs.length:=by omega
  subst e
  exact .inl ⟨⟨xs,ys,q,q',.inl (ztI _)⟩,hd σ H p⟩
theorem zk6 {X:Cx}{sc wO:Scope}{x y:Str}{js:List Nat}{elt iter c:Expr}{px py pt pos:Pos}{x1:Nat}{wi:TI}{te:TE}{tt:TT}(Yj:X.env.scope=wO)(L:zck wO sc x y (js.map fun j=>X.N.getD j ""))(hc:X.calm=true)(hi:PI X (.Tuple [.Name x px,.Name y py] x1 pt) iter wi)(hjs:∀j∈js,j<X.N.length)
  (ht:∀(cl:List (Str×Addr)) (C:Addr) (s₂:Shared) (H₂:Hp) (fp:List Addr),PT (X.blk sc cl C (Uw X [x,y] js) s₂ H₂ fp) c tt)
  (he:∀(cl:List (Str×Addr)) (C:Addr) (s₂:Shared) (H₂:Hp) (fp:List Addr),PE (X.blk sc cl C (Uw X [x,y] js) s₂ H₂ fp) elt te)
  (hs:∀x,foldedSetIterable iter X.env x=pure x:=by intro _;rfl) :
  PE X (.ListComp elt [⟨.Tuple [.Name x px,.Name y py] x1 pt,iter,[c],0⟩] sc pos) (zkD wi [x,y] js (zft X.K 2 (VR (Yg 0) (VR (Yg 1) zfs))) tt te) :=
 zjs Yj L.g hc hi (fun cl C s₂ H₂ fp=>zdh (X:=X.blk sc cl C (Uw X [x,y] js) s₂ H₂ fp) hc L.nd rfl rfl (lookup_relabel_local L.hx) (lookup_relabel_local L.hy)) hjs (fun cl C s₂ H₂ fp pins s' σ' H' Q I h=>wpAny_tests_one (ht cl C s₂ H₂ fp pins s' σ' H' Q I h)) he hs
end L2
namespace yU
open PySem L2 yF
def XD (ps:List Nat):List V:=ps.map fun p=>V.int (p:Nat)
theorem zhd {os:List Str}{x:Str}:inV (.str x) (os.map V.str)=os.contains x:=by
 unfold inV
 rw[List.any_map]
 induction os with
 | nil=>rfl
 | cons a l ih =>
  rw[List.any_cons,List.contains_cons,ih]
  show((a==x)||l.contains x)=((x==a)||l.contains x)
  rw[Bool.beq_comm]
theorem zhe {a b:Nat}(h:∀i,a.testBit i=b.testBit i):a=b:=Nat.eq_of_testBit_eq h
end yU
namespace L2
open PySem PySem.Spec PyProof.Rows PySem.W
section
variable {X:Cx}
theorem zaJ {K:Frag}(h:X.K=K):Uq X (binaryOp .Add) (zlW K):=by subst h;exact U0
end
end L2
namespace yU
open PySem L2 yF
theorem zjy {K:Frag}{H:Hp}{n:Nat}{p q:Addr}{xs:List V}(hp:zP K H p xs)(hq:zP K H q xs)(hf:∀x∈xs,xX x=true):S6 K H (n+1) (.ref p) (.ref q) true :=
 zlS hp hq rfl fun j x y hx hy=>by
  rw[hx] at hy
  cases hy
  exact zg9 (hf x (ztx hx))
end yU
namespace PySem
open Sem (wp)
namespace F
theorem zfZ:typeLookup (.type "str") "__int__"=pure none:=by rw[typeLookup_type,builtinLookup_eq_fast];kernel_rfl
theorem zdk:typeLookup (.type "str") "__index__"=pure none:=by rw[typeLookup_type,builtinLookup_eq_fast];kernel_rfl
theorem zdl:typeLookup (.type "str") "__trunc__"=pure none:=by rw[typeLookup_type,builtinLookup_eq_fast];kernel_rfl
end F
theorem Ms (c:Str)(x:Nat)(n:Int)(u:Tok)(hA:(c.cps.all fun x=>decide (x<128))=true)(hL:c.cps.toList=[x])(hx:x=48/\n=0\/x=49/\n=1):Meets (Builtin.«int.__new__» ⟨[.type "int", .str c u],[]⟩) (Made.int n).spec :=
 Meets.of_wp fun prog w A R s hs=>by
  obtain⟨hp,g,d,tk,os⟩:=s
  have f1:=F.conv_sub_int
  have f2:=F.madeHere_int
  have hT:(⟨hp,g,d,tk,os⟩:Shared).TypeIs (.str c u) "str" := rfl
  have f3:=F.zfZ
  have f4:=F.zdk
  have f5:=F.zdl
  repeat (any_goals (first | assumption | wp_step))
  rw[if_pos hA,hL]
  rcases hx with ⟨rfl,rfl⟩ | ⟨rfl,rfl⟩
  ·rw[if_pos (by decide)]
   refine wpAny_bind (wpAny_pure ?_)
   show wpAny _ _ (mkInt 0) _ _ _
   repeat (any_goals (first | assumption | wp_step))
   all_goals first | exact⟨_,rfl,hs⟩ | skip
  ·rw[if_pos (by decide)]
   refine wpAny_bind (wpAny_pure ?_)
   show wpAny _ _ (mkInt 1) _ _ _
   repeat (any_goals (first | assumption | wp_step))
   all_goals first | exact⟨_,rfl,hs⟩ | skip
end PySem
namespace L2
open PySem PySem.Spec PyProof.Rows PySem.W
section
variable {X:Cx}
theorem zh0:uW X (.type "int") (fun xs H Q=>∃b:Bool,xs=[.str (zdj b)]/\Q (.int (b.toNat:Nat)) H):=by
 intro pins s σ H xs us Q I r h
 obtain⟨b,rfl,q⟩:=h
 obtain⟨u,rfl,t,rfl⟩:=vals1 r
 have m:Meets (Builtin.«int.__new__» ⟨[.type "int", .str (zdj b) t],[]⟩) (Made.int ((b.toNat:Nat):Int)).spec:=Ms (zdj b) (yU.chc b) _ t (by cases b<;>decide +kernel) rfl (by cases b;exact .inl ⟨rfl,rfl⟩;exact .inr ⟨rfl,rfl⟩)
 exact call_int_1 m (show(Made.int ((b.toNat:Nat):Int)).post _ s from ⟨rfl,⟨.int (b.toNat:Nat),H,I.tok _,⟨_,rfl⟩,q⟩⟩)
end
end L2
namespace yF
open PySem L2
theorem Vu (R:Row):∀n,(List.range n).map R∈allR n
 | 0=>by simp[allR]
 | n+1=>by
  rw[List.range_succ,ztG,List.map_singleton]
  refine List.mem_flatMap.mpr ⟨_,Vu R n,?_⟩
  cases R n<;>simp
end yF
namespace yU
open PySem L2 yF
theorem Qp {n p:Nat}{f:Nat->Bool}{v:Bool}(hp:p<n)(fr:∀i,i<p->Free n f i):∀i,i<p+1->Free n (fun b=>f (zM b p v)) i:=fun i hi b hb u=>by
 show f (zM (zM b i u) p v)=f (zM b p v)
 by_cases e:i=p
 ·subst e
  congr 1
  refine ZL (zT (zT hb hp) hp) (zT hb hp) fun j _=>?_
  rw[zQ,zQ,zQ]
  by_cases e:j=i
  ·rw[if_pos e,if_pos e]
  ·rw[if_neg e,if_neg e,if_neg e]
 ·have hi':i<p:=by omega
  rw[<-fr i hi' (zM b p v) (zT hb hp) u]
  congr 1
  refine ZL (zT (zT hb (by omega)) hp) (zT (zT hb hp) (by omega)) fun j _=>?_
  rw[zQ,zQ,zQ,zQ]
  by_cases e1:j=p
  ·rw[if_pos e1,if_pos e1,if_neg (by omega)]
  ·rw[if_neg e1,if_neg e1]
theorem zjz {x:List Bool}{j:Nat}{v:V}(h:(zX x)[j]?=some v):∃b,x[j]?=some b/\v=.int (b.toNat:Nat):=by
 unfold zX at h
 rw[ztu] at h
 cases hx:x[j]? with
 | none=>rw[hx] at h;cases h
 | some b=>rw[hx] at h;exact⟨b,rfl,(ztX h).symm⟩
theorem V7 (x:List Bool):(zX x).length=x.length:=zts _
theorem zjA {K:Frag}{H:Hp}{n:Nat}{p q:Addr}{x y:List Bool}(hp:zP K H p (zX x))(hq:zP K H q (zX y)):S6 K H (n+1) (.ref p) (.ref q) (decide (x=y)):=by
 by_cases hl:x.length=y.length
 ·have z:=S6.ll (n:=n) (e:=fun j=>x[j]?==y[j]?) hp hq (by rw[V7,V7,hl]) fun j u v hu hv=>by
   obtain⟨b,hb,rfl⟩:=zjz hu
   obtain⟨c,hc,rfl⟩:=zjz hv
   rw[hb,hc]
   have:eqV (.int (b.toNat:Nat)) (.int (c.toNat:Nat))=(some b==some c):=by cases b<;>cases c<;>rfl
   rw[<-this]
   exact .flat rfl rfl
  have e:((List.range (zX x).length).all fun j=>x[j]?==y[j]?)=decide (x=y):=by
   rw[V7]
   by_cases h:x=y
   ·subst h
    rw[decide_eq_true rfl,ztW]
    exact fun j _=>by simp
   ·rw[decide_eq_false h]
    cases hc:(List.range x.length).all fun j=>x[j]?==y[j]? with
    | false=>rfl
    | true =>
     exfalso
     rw[ztW] at hc
     refine h (List.ext_getElem? fun j=>?_)
     by_cases hj:j<x.length
     ·exact eq_of_beq (hc j (List.mem_range.mpr hj))
     ·rw[zt2 (by omega),zt2 (by omega)]
  rw[e] at z
  exact z
 ·rw[decide_eq_false (fun z=>hl (by rw[z]))]
  exact .ln hp hq (by rw[V7,V7];exact hl)
open Classical in
noncomputable def QT (H:Hp) (r:List Bool) (z:V):Bool:=decide (∃p,z=V.ref p/\H p=some (.lst (zX r)))
theorem zcq {H:Hp}{r:List Bool}{z:V}:QT H r z=true↔∃p,z=V.ref p/\H p=some (.lst (zX r)):=by
 unfold QT
 exact @decide_eq_true_iff _ (Classical.propDecidable _)
theorem zeA {H:Hp}{r x:List Bool}{p:Addr}(h:H p=some (.lst (zX x))):QT H r (.ref p)=decide (x=r):=by
 by_cases e:x=r
 ·rw[decide_eq_true e]
  exact zcq.mpr ⟨p,rfl,e ▸ h⟩
 ·rw[decide_eq_false e]
  cases hc:QT H r (.ref p) with
  | false=>rfl
  | true =>
   exfalso
   obtain⟨q,hq,h2⟩:=zcq.mp hc
   cases hq
   rw[h] at h2
   injection h2 with h2
   injection h2 with h2
   exact e (zjw h2)
theorem Kh {H:Hp}{r:List Bool}:∀{qs:List Addr} {xs:List (List Bool)},Paired (fun q r=>H q=some (.lst (zX r))) qs xs->(qs.map V.ref).any (QT H r)=decide (r∈xs)
 | [],[],.nil=>rfl
 | q::qs,x::xs,.cons h hs=>by
  rw[ztR,List.any_cons,Kh hs,zeA h]
  by_cases e:x=r
  ·have e2:r∈x::xs:=by rw[e];exact ztM
   rw[decide_eq_true e,decide_eq_true e2];rfl
  ·rw[decide_eq_false e,Bool.false_or]
   refine decide_eq_decide.mpr ?_
   rw[List.mem_cons]
   exact⟨.inr,fun z=>z.elim (fun w=>absurd w.symm e) id⟩
end yU
namespace L2
open PySem PySem.Spec PyProof.Rows
theorem zjB {α β:Type}{R:α->β->Prop}:∀{xs:List α} {ys:List β},xs.length=ys.length->(∀(j:Nat) x y,xs[j]?=some x->ys[j]?=some y->R x y)->Paired R xs ys
 | [],[],_,_=>.nil
 | [],_::_,e,_=>by cases e
 | _::_,[],e,_=>by cases e
 | x::xs,y::ys,e,h=>.cons (h 0 x y rfl rfl) (zjB (Nat.succ.inj e) fun j a b h1 h2=>h (j+1) a b h1 h2)
section
variable {X:Cx}
theorem zhf:Uq X (compareOp .IsNot) (fun x y H Q=>∃a b,x=.bl a/\y=.bl b/\Q (.bl (a != b)) H):=by
 intro pins s σ H x y v u Q I rx ry h
 obtain⟨a,b,rfl,rfl,q⟩:=h
 cases rx
 cases ry
 refine wpAny_pure (yG I q ?_)
 cases a<;>cases b<;>rfl
end
section
variable {X:Cx}{pins:List (Addr×Obj)}{σ:St}{H:Hp}{s:Shared}
theorem Inv.held {d:Addr}{kvs:List (Key×V)}{o:Obj}(I:Inv X pins σ H s)(e:H d=some (.dK kvs))(ho:s.heap.get? d=some o):Inv X pins σ (upd H d (.KY o (.dK kvs))) s :=
 I.write (t':=s.toks) (h':=s.heap) (by rw[e];exact trivial) (.inl rfl) (fun _ _ _ q=>q) ⟨o,ho⟩ ⟨ho,I.hok d _ e⟩
end
theorem zhg {P:Program}{w:World}{h h':Heap}{d:Addr}{o:Obj}{vs vs':List (Key×Value)}{ep ep':Nat}(ho:h.get? d=some o)(hd:h'.get? d=some o)(x:h.DictAt (yd P w) d vs ep)(x':h'.DictAt (yd P w) d vs' ep'):ep'=ep:=by
 obtain⟨o1,es1,ho1,_,zn5,_⟩:=x
 obtain⟨o2,es2,ho2,_,zlY,_⟩:=x'
 rw[ho] at ho1
 cases ho1
 rw[hd] at ho2
 cases ho2
 rw[zn5] at zlY
 cases zlY
 rfl
section
variable {X:Cx}
def zpP:V->Option Int->Option Int->Hp->VK->Prop:=fun x lo hi H Q=>∃z:Str,x=.str z/\z.length<=sizeLine/\Q (.str (Txt.slice z lo hi)) H
theorem zdm:SlR X zpP:=by
 intro pins s σ H x v vl vu lo hi sl Q I rx hs pl pu h
 obtain⟨z,rfl,hz,q⟩:=h
 obtain⟨t,rfl⟩:=rx
 refine⟨"str", _,PySem.F.slot_str_getitem.lookup,typeIs_str _ _ _,?_⟩
 have fin:∀(t':Tok) (k:Nat),EP X pins σ Q (.str (Txt.slice z lo hi) t') { s with toks:=k }:=fun t' k=>⟨.str (Txt.slice z lo hi),H,I.tok _,⟨t',rfl⟩,q⟩
 cases pl with
 | none=>cases pu with
  | none=>exact wpAny_getItem_str_slice (l:=none) (u:=none) (st:=none) hs rfl (post_val_or_str ⟨ztO (Txt.slice_le z _ _) hz,fin⟩)
  | int j uj=>exact wpAny_getItem_str_slice (l:=none) (u:=some (j,uj)) (st:=none) hs rfl (post_val_or_str ⟨ztO (Txt.slice_le z _ _) hz,fin⟩)
 | int i ui=>cases pu with
  | none=>exact wpAny_getItem_str_slice (l:=some (i,ui)) (u:=none) (st:=none) hs rfl (post_val_or_str ⟨ztO (Txt.slice_le z _ _) hz,fin⟩)
  | int j uj=>exact wpAny_getItem_str_slice (l:=some (i,ui)) (u:=some (j,uj)) (st:=none) hs rfl (post_val_or_str ⟨ztO (Txt.slice_le z _ _) hz,fin⟩)
end
end L2
namespace yU
open PySem L2 yF
section
variable {os:List Str}{t:Nat->Bool}
theorem zf0 {x:List Nat}{j:Nat}{v:V}(h:(XD x)[j]?=some v):∃b,x[j]?=some b/\v=.int (b:Nat):=by
 unfold XD at h
 rw[ztu] at h
 cases hx:x[j]? with
 | none=>rw[hx] at h;cases h
 | some b=>rw[hx] at h;exact⟨b,rfl,(ztX h).symm⟩
theorem Xb (x:List Nat):(XD x).length=x.length:=zts _
theorem zjC {K:Frag}{H:Hp}{n:Nat}{p q:Addr}{x y:List Nat}(hp:zP K H p (XD x))(hq:zP K H q (XD y)):S6 K H (n+1) (.ref p) (.ref q) (decide (x=y)):=by
 by_cases hl:x.length=y.length
 ·have z:=S6.ll (n:=n) (e:=fun j=>x[j]?==y[j]?) hp hq (by rw[Xb,Xb,hl]) fun j u v hu hv=>by
   obtain⟨b,hb,rfl⟩:=zf0 hu
   obtain⟨c,hc,rfl⟩:=zf0 hv
   rw[hb,hc]
   have:eqV (.int (b:Nat)) (.int (c:Nat))=(some b==some c):=by
    show(((b:Nat):Int)==((c:Nat):Int))=(some b==some c)
    by_cases e:b=c
    ·subst e;simp
    ·have e':¬((b:Nat):Int)=((c:Nat):Int):=by omega
     rw[beq_eq_false_iff_ne.mpr e',beq_eq_false_iff_ne.mpr (fun z=>e (ztX z))]
   rw[<-this]
   exact .flat rfl rfl
  have e:((List.range (XD x).length).all fun j=>x[j]?==y[j]?)=decide (x=y):=by
   rw[Xb]
   by_cases h:x=y
   ·subst h
    rw[decide_eq_true rfl,ztW]
    exact fun j _=>by simp
   ·rw[decide_eq_false h]
    cases hc:(List.range x.length).all fun j=>x[j]?==y[j]? with
    | false=>rfl
    | true =>
     exfalso
     refine h (List.ext_getElem? fun j=>?_)
     by_cases hj:j<x.length
     ·exact eq_of_beq (ztW.mp hc j (List.mem_range.mpr hj))
     ·rw[zt2 (by omega),zt2 (by omega)]
  rw[e] at z
  exact z
 ·rw[decide_eq_false fun e=>hl (by rw[e])]
  exact .ln hp hq (by rw[Xb,Xb];exact hl)
end
section
variable (C:Addr)(K:Frag)
def tB (rs:List Rm)(k:Nat):Nat->Bool:=fun b=>yes rs k (Jy b)
end
theorem zhZ.rise {C:Addr}{H0:Hp}{b:Addr}{os:List Str}{m n:Nat}{H:Hp}{rs:List Rm}{F:ZK}(h:zhZ C H0 b os m H rs F){H':Hp}{rs':List Rm}(aw:zmO F H H')(hB:yP C H' b os rs' F)(hh:hiN os.length rs'<=hiN os.length rs+n):zhZ C H0 b os (m+n) H' rs' F :=
 ⟨fun x o e=>aw x o (h.same _ _ e) fun z=>(by have:=h.away x z;rw[this] at e;cases e),h.away,hB,ztO hh (Nat.add_le_add_right h.hi _)⟩
section
variable {os:List Str}
variable {t:Nat->Bool}
theorem zk7 {n N M:Nat}{f g:Nat->Bool}(a:zV n N f)(b:zV n M g):zV n (N&&&M) fun c=>f c&&g c:=fun c=>by
 rw[Nat.testBit_and,a c,b c]
 cases decide (c<2^n)<;>simp
end
def hav (l:List (Nat×Bool))(b:Nat):Bool:=l.all fun x=>b.testBit x.1==x.2
section
variable (C:Addr)(K:Frag)
inductive U3 (vs:List V)(H:Hp)(Q:VK)(E9:XK):Prop
 | mk (pl rl:Addr) (n:Nat) (ps:List Nat) (r:List Bool) (_:vs=[.ref pl,.ref rl,.int (n:Nat)]) (_:n<=8) (_:zP K H pl (XD ps)) (_:zP K H rl (zX r)) (_:(∀p∈ps,p<n)) (_:ps.length=r.length) (_:ps.length<=8) (_:∀(R:Nat) (H':Hp),Same H H'->zV n R (hav (ps.zip r))->Q (.int (R:Nat)) H'):U3 vs H Q E9
end
theorem list_range (r:List Bool):(List.range r.length).map (zn1 r)=r:=by
 refine List.ext_getElem? fun i=>?_
 rw[ztu]
 rcases Nat.lt_or_ge i r.length with z | z
 ·rw[List.getElem?_range z,ztt z]
  show some (r.getD i false)=_
  rw[ztF,ztt z]
  rfl
 ·rw[zt2 (by rw[ztK];exact z),zt2 z]
  rfl
theorem zaK (r:List Bool):r∈allR r.length:=by
 have:=Vu (zn1 r) r.length
 rwa [list_range] at this
end yU
namespace L2
open PySem
section
variable {K:Frag}{σ:St}{js:List Nat}{tt:TT}{te:TE}{H:Hp}{Qf:Addr->Hp->List V->Prop}
open yU
theorem zjD {n:Nat}(p:Nat->Bool)(hz:n<=sizeLine)(hte:∀x H' Q,Q x H'->te (Zj σ js (some x)) H' Q)
  (hs:∀(i:Nat) H' (Q:Bool->Hp->Prop),i<n->Same H H'->(∀H2,Same H H2->Q (p i) H2)->tt (Zj σ js (some (.int ((0:Int)+i)))) H' Q)
  (hd:∀H' l,Same H H'->H' l=none->Qf l H' (XD ((List.range n).filter p))) :
  ∃W:Nat->Nat->List V->Hp->Prop,(∃m,W 0 m [] H)/\∀i m ys H,W i m ys H ->
   ((Itr 0 n).stop i H/\∀p,H p=none->Qf p H ys) \/
   ((Itr 0 n).go i H/\ys.length<sizeLine/\∀x H',(Itr 0 n).R7 i H x H'->tt (Zj σ js (some x)) H' fun b H2 =>
    if b=true then te (Zj σ js (some x)) H2 fun v H3=>∃m',m'<m/\W (i+1) m' (ys++[v]) H3 else ∃m',m'<m/\W (i+1) m' ys H2):=by
 refine⟨fun i m ys H'=>m=n-i/\i<=n/\Same H H'/\ys=XD ((List.range i).filter p),⟨n,by simp,ztP _,Same.refl _,rfl⟩,?_⟩
 rintro i m ys H1 ⟨rfl,hi,g,rfl⟩
 have hy:(XD ((List.range i).filter p)).length<=i:=by
  have:=zt1 p (List.range i)
  rw[ztK] at this
  unfold XD
  rw[zts]
  exact this
 by_cases hlt:i<n
 ·refine .inr ⟨hlt,by omega,fun x H' y=>?_⟩
  obtain⟨e,y⟩:=y
  subst e y
  refine hs i _ _ hlt g fun H2 g2=>?_
  cases e:p i with
  | true =>
   rw[if_pos rfl]
   refine hte _ _ _ ⟨_,Nat.sub_lt_sub_left hlt (Nat.lt_succ_self i),rfl,hlt,g2,?_⟩
   rw[List.range_succ,zt6,List.filter_cons_of_pos e]
   unfold XD
   rw[ztG]
   show _++[V.int ((0:Int)+(i:Nat))]=_++[V.int (i:Nat)]
   rw[Int.zero_add]
  | false =>
   rw[if_neg ztw]
   refine⟨_,Nat.sub_lt_sub_left hlt (Nat.lt_succ_self i),rfl,hlt,g2,?_⟩
   rw[List.range_succ,zt6,List.filter_cons_of_neg (by rw[e];exact ztw),List.filter_nil,List.append_nil]
 ·have e:i=n:=by omega
  subst e
  exact .inl ⟨ztI _,fun l hl=>hd _ l g hl⟩
theorem Rf {a:Addr}{xs:List V}(Pv:Nat->List V->Hp->Prop)(h0:Pv 0 [] H)(hz:xs.length<=sizeLine)
  (hl:∀i ys H,i<=xs.length->Pv i ys H->zP K H a xs/\ys.length<=i)
  (hs:∀i x ys H (Q:V->Hp->Prop),xs[i]?=some x->Pv i ys H->(∀v H3,Pv (i+1) (ys++[v]) H3->Q v H3)->te (Zj σ js (some x)) H Q)
  (hd:∀ys H p,Pv xs.length ys H->H p=none->Qf p H ys) :
  ∃W:Nat->Nat->List V->Hp->Prop,(∃m,W 0 m [] H)/\∀i m ys H,W i m ys H ->
   ((KZ K a).stop i H/\∀p,H p=none->Qf p H ys) \/
   ((KZ K a).go i H/\ys.length<sizeLine/\∀x H',(KZ K a).R7 i H x H'->Sw (Zj σ js (some x)) H' fun b H2 =>
    if b=true then te (Zj σ js (some x)) H2 fun v H3=>∃m',m'<m/\W (i+1) m' (ys++[v]) H3 else ∃m',m'<m/\W (i+1) m' ys H2):=by
 refine⟨fun i m ys H=>m=xs.length-i/\i<=xs.length/\Pv i ys H,⟨xs.length,by simp,ztP _,h0⟩,?_⟩
 rintro i m ys H ⟨rfl,hi,p⟩
 obtain⟨q,hy⟩:=hl i ys H hi p
 by_cases hlt:i<xs.length
 ·refine .inr ⟨⟨xs,xs[i],q,by simp[hlt]⟩,by omega,fun x H' y=>?_⟩
  obtain⟨e,y⟩:=y
  subst e
  show te (Zj σ js (some x)) H' fun v H3=>∃m',m'<xs.length-i/\(m'=xs.length-(i+1)/\i+1<=xs.length/\Pv (i+1) (ys++[v]) H3)
  exact hs i x ys _ _ (y xs q) p fun v H3 h3=>⟨_,Nat.sub_lt_sub_left hlt (Nat.lt_succ_self i),rfl,hlt,h3⟩
 ·have e:i=xs.length:=by omega
  subst e
  exact .inl ⟨⟨xs,q,ztI _⟩,fun pp hp=>hd ys H pp p hp⟩
end
end L2
namespace yU
open PySem L2 yF
theorem zhZ.made {C:Addr}{H0 H':Hp}{bk dx:Addr}{os:List Str}{F:ZK}{o1 o2:HO}(hbk:H0 bk=none)(hdx:H0 dx=none)(hne:dx≠bk)(keep:∀x o,upd (upd H0 dx o1) bk o2 x=some o->x≠bk->H' x=some o)
  (hB:yP C H' bk os [none,none] F)(hF:∀x,F x->x=bk\/x=dx\/upd (upd H0 dx o1) bk o2 x=none):zhZ C H0 bk os 0 H' [none,none] F:=by
 refine⟨fun x o e=>keep x o (by rw[zB (zy e hbk),zB (zy e hdx)];exact e) (zy e hbk),fun x hx=>?_,hB,ztI _⟩
 rcases hF x hx with z | z | z
 ·rw[z];exact hbk
 ·rw[z];exact hdx
 ·by_cases e1:x=bk
  ·rw[e1] at z;rw[zf] at z;cases z
  ·by_cases e2:x=dx
   ·rw[e2,zB hne,zf] at z;cases z
   ·rw[zB e1,zB e2] at z;exact z
theorem zh1 (n:Nat):(List.replicate n true).all id=true:=by
 rw[ztW]
 intro x hx
 exact(List.mem_replicate.mp hx).2
end yU
namespace L2
open PySem PySem.Spec PyProof.Rows
theorem zmS:bootBuiltins "any"=some (.builtin "any"):=by decide +kernel
theorem zbB (bs:List Bool):((List.range bs.length).any fun i=>(bs[i]?).getD true)=bs.any id:=by
 rw[zt8,List.any_eq_true,List.any_eq_true]
 constructor
 ·rintro⟨i,hi,e⟩
  have hi':=List.mem_range.mp hi
  rw[ztt hi',Option.getD_some] at e
  exact⟨_,zt9 hi',e⟩
 ·rintro⟨b,hb,e⟩
  obtain⟨i,hi,eb⟩:=zua hb
  refine⟨i,List.mem_range.mpr hi,?_⟩
  rw[ztt hi,Option.getD_some,eb]
  exact e
section
variable {X:Cx}
theorem zjE (hc:X.calm=true):uW X (.builtin "any") (fun xs H Q=>∃(p:Addr) (bs:List Bool),xs=[.ref p]/\zP X.K H p (bs.map V.bl)/\Q (.bl (bs.any id)) H):=by
 intro pins s σ H xs us Q I r h
 obtain⟨p,bs,rfl,hq,q⟩:=h
 obtain⟨u,rfl,rx⟩:=vals1 r
 cases rx
 obtain⟨its,r',pl,hz⟩:=I.list hq
 have hlen:bs.length=its.length:=by have:=r'.length;rw[zts] at this;exact this
 have hlt:p<s.heap.objs.size:=by obtain⟨_,e,_⟩:=pl.isList;exact ztz e
 refine call_any_walk (wpAny_pyIter_list pl.isList ?_)
 refine⟨s.heap.objs.size,[s.heap.objs.size,p],[s.heap.objs.size],its.toArray.size,_,_,fun i=>(bs[i]?).getD true,rfl,Walks.list (A:=X.A.in1) (I.ok.hd hc) _ p (ztH hlt) its.toArray,
  ⟨⟨_,ztN _ rfl,rfl,rfl⟩,pl.isList.push _⟩,fun i v s' Q' E' hP hQ=>?_,fun h' tk hk=>?_⟩
 ·have hP':its[i]?=some v:=by simpa using hP
  have hi:i<bs.length:=by
   have:=(ztv.mp hP').1
   omega
  obtain⟨w,hw,rw'⟩:=r'.get (i:=i) (x:=.bl bs[i]) (by rw[ztu,ztt hi];rfl)
  rw[hP'] at hw
  cases hw
  cases rw'
  simp only[ztt hi,Option.getD_some] at hQ
  exact wpAny_truthy_bool hQ
 ·have kp:∀b o,s.heap.get? b=some o->h'.get? b=some o:=fun b o e=>hk b o (fun hm=>by
   rw[List.mem_singleton.mp hm] at e
   exact Nat.lt_irrefl _ (ztz e)) (zty _ e)
  refine⟨.bl _,H,I.kept kp,rfl,?_⟩
  rw[ztC,<-hlen,zbB]
  exact q
end
section
variable {K:Frag}{σ:St}{js:List Nat}{te:TE}{H:Hp}{Qf:Addr->Hp->List V->Prop}
open yU
theorem zk8 {n:Nat}(f:Nat->V)(hz:n<=sizeLine)
  (hs:∀(i:Nat) H' (Q:V->Hp->Prop),i<n->Same H H'->(∀H3,Same H' H3->Q (f i) H3)->te (Zj σ js (some (.int ((0:Int)+i)))) H' Q)
  (hd:∀H' p,Same H H'->H' p=none->Qf p H' ((List.range n).map f)) :
  ∃W:Nat->Nat->List V->Hp->Prop,(∃m,W 0 m [] H)/\∀i m ys H,W i m ys H ->
   ((Itr 0 n).stop i H/\∀p,H p=none->Qf p H ys) \/
   ((Itr 0 n).go i H/\ys.length<sizeLine/\∀x H',(Itr 0 n).R7 i H x H'->Sw (Zj σ js (some x)) H' fun b H2 =>
    if b=true then te (Zj σ js (some x)) H2 fun v H3=>∃m',m'<m/\W (i+1) m' (ys++[v]) H3 else ∃m',m'<m/\W (i+1) m' ys H2):=by
 refine⟨fun i m ys H'=>m=n-i/\i<=n/\Same H H'/\ys=(List.range i).map f,⟨n,by simp,ztP _,Same.refl _,rfl⟩,?_⟩
 rintro i m ys H1 ⟨rfl,hi,g,rfl⟩
 by_cases hlt:i<n
 ·refine .inr ⟨hlt,by rw[zts,ztK];omega,fun x H' y=>?_⟩
  obtain⟨e,y⟩:=y
  subst e y
  refine hs i _ _ hlt g fun H3 g3=>⟨_,Nat.sub_lt_sub_left hlt (Nat.lt_succ_self i),rfl,hlt,g.trans g3,?_⟩
  rw[List.range_succ,ztG]
  rfl
 ·have e:i=n:=by omega
  subst e
  exact .inl ⟨ztI _,fun l hl=>hd _ l g hl⟩
end
theorem zhh:bootBuiltins "repr"=some (.builtin "repr"):=by decide +kernel
end L2
namespace L2
open PySem
section
variable {K:Frag}{σ:St}{js:List Nat}{te:TE}{H:Hp}{Qf:Addr->Hp->List V->Prop}
theorem zh2 {a:Addr}{xs:List V}(hq:zP K H a xs)(hz:xs.length<=sizeLine)
  (hs:∀(i:Nat) x H' (Q:V->Hp->Prop),xs[i]?=some x->Same H H'->(∀H3,Same H' H3->Q (.bl true) H3)->te (Zj σ js (some x)) H' Q)
  (hd:∀H' p,Same H H'->H' p=none->Qf p H' ((List.replicate xs.length true).map V.bl)) :
  ∃W:Nat->Nat->List V->Hp->Prop,(∃m,W 0 m [] H)/\∀i m ys H,W i m ys H ->
   ((KZ K a).stop i H/\∀p,H p=none->Qf p H ys) \/
   ((KZ K a).go i H/\ys.length<sizeLine/\∀x H',(KZ K a).R7 i H x H'->Sw (Zj σ js (some x)) H' fun b H2 =>
    if b=true then te (Zj σ js (some x)) H2 fun v H3=>∃m',m'<m/\W (i+1) m' (ys++[v]) H3 else ∃m',m'<m/\W (i+1) m' ys H2):=by
 refine Rf (xs:=xs) (fun i ys H'=>Same H H'/\ys=(List.replicate i true).map V.bl) ⟨Same.refl _,rfl⟩ hz ?_ ?_ ?_
 ·rintro i ys H' hi ⟨g,rfl⟩
  exact⟨g.seq hq,by rw[zts,List.length_replicate];exact ztI _⟩
 ·rintro i x ys H' Q0 hx ⟨g,rfl⟩ hQ
  refine hs i x H' Q0 hx g fun H3 g3=>hQ _ _ ⟨g.trans g3,?_⟩
  rw[List.replicate_succ',ztG]
  rfl
 ·rintro ys H' p ⟨g,rfl⟩ hp
  exact hd H' p g hp
end
end L2
namespace yU
open PySem L2 yF
theorem zeB {K:Frag}{H:Hp}{r:List Bool}{p:Addr}{qs:List Addr}{xs:List (List Bool)}(hp:Paired (fun q r=>H q=some (.lst (zX r))) qs xs)(h:zP K H p (zX r)):∀z∈qs.map V.ref,S6 K H 8 z (.ref p) (QT H r z):=fun z hz=>by
 obtain⟨q,hq,rfl⟩:=List.mem_map.mp hz
 obtain⟨j,hj⟩:=List.mem_iff_getElem?.mp hq
 obtain⟨x,_,hx⟩:=Xr hp hj
 rw[zeA hx]
 exact zjA (zP.of hx) h
end yU
namespace yU
open PySem L2
def Sn.sup:Sn->List Str
 | .c0 _=>[]
 | .mk x=>[x]
 | .nt s=>s.sup
 | .b2 _ s t=>s.sup++t.sup
 | .q1 _ _ s=>s.sup
theorem Sn.Qq:∀(s:Sn) {f g:Str->Bool},(∀x∈s.sup,f x=g x)->s.val f=s.val g
 | .c0 _,f,g,_=>rfl
 | .mk x,f,g,h=>h x (List.mem_singleton.mpr rfl)
 | .nt s,f,g,h=>by
  show(!s.val f)=!s.val g
  rw[Sn.Qq s h]
 | .b2 o s t,f,g,h=>by
  have h1:=Sn.Qq s (f:=f) (g:=g) fun x hx=>h x (List.mem_append_left _ hx)
  have h2:=Sn.Qq t (f:=f) (g:=g) fun x hx=>h x (ztJ _ hx)
  unfold Sn.val
  rw[h1,h2]
 | .q1 o y s,f,g,h=>by
  have h1:=Sn.Qq s (f:=fun z=>if z=y then false else f z) (g:=fun z=>if z=y then false else g z) fun x hx=>by
   show(if x=y then false else f x)=if x=y then false else g x
   rw[h x hx]
  have h2:=Sn.Qq s (f:=fun z=>if z=y then true else f z) (g:=fun z=>if z=y then true else g z) fun x hx=>by
   show(if x=y then true else f x)=if x=y then true else g x
   rw[h x hx]
  cases o<;>(unfold Sn.val;rw[h1,h2])
def Few (ss:List Sn):Prop:=∀R:List Sn,(∀r∈R,r∈ss)->∃P:List Str,2*P.length<=ss.length+R.length/\∀r∈R,∀x∈r.sup,x∈P
open Classical in
theorem Few.push {ss:List Sn}(F:Few ss){s:Sn}(cs:List Sn)(xs:List Str)(hc:∀c∈cs,c∈ss)(hs:∀x∈s.sup,x∈xs\/∃c∈cs,x∈c.sup)(hn:2*xs.length+cs.length<=2):Few (ss++[s]):=fun R hR=>by
 have hl:(ss++[s]).length=ss.length+1:=by rw[ztA];rfl
 by_cases h:∀r∈R,r∈ss
 ·obtain⟨P,h1,h2⟩:=F R h
  exact⟨P,by omega,h2⟩
 ·obtain⟨r0,h0⟩:=Classical.not_forall.mp h
  have ⟨h0,h0'⟩:=Classical.not_imp.mp h0
  have lt:(R.filter fun r=>decide (r∈ss)).length<R.length:=List.length_filter_lt_length_iff_exists.mpr ⟨r0,h0,by simpa using h0'⟩
  obtain⟨P,h1,h2⟩:=F (R.filter (fun r=>decide (r∈ss))++cs) fun r hr=>by
   rcases List.mem_append.mp hr with z | z
   ·exact of_decide_eq_true (List.mem_filter.mp z).2
   ·exact hc r z
  rw[ztA] at h1
  refine⟨P++xs,by rw[ztA];omega,fun r hr x hx=>?_⟩
  by_cases z:r∈ss
  ·exact List.mem_append_left _ (h2 r (List.mem_append_left _ (List.mem_filter.mpr ⟨hr,decide_eq_true z⟩)) x hx)
  ·have e:r=s:=by
    rcases List.mem_append.mp (hR r hr) with y | y
    ·exact absurd y z
    ·exact List.mem_singleton.mp y
   subst e
   rcases hs x hx with y | ⟨c,hc',y⟩
   ·exact ztJ _ y
   ·exact List.mem_append_left _ (h2 c (ztJ _ hc') x y)
theorem Few.none:Few []:=fun R hR=>⟨[],by show 2*0<=0+R.length;omega,fun r hr=>absurd (hR r hr) ztT⟩
theorem Few.last {ss:List Sn}(F:Few ss){s:Sn}(h:s∈ss):∃P:List Str,2*P.length<=ss.length+1/\∀x∈s.sup,x∈P:=by
 obtain⟨P,h1,h2⟩:=F [s] fun r hr=>by rw[List.mem_singleton.mp hr];exact h
 exact⟨P,h1,h2 s (List.mem_singleton.mpr rfl)⟩
structure zcr (H0 H:Hp)(os:List Str)(m kd:Addr)(ps:List Addr)(d:Nat)(ss:List Sn):Prop where
 M:Made H0 H os m kd ps d
 few:Few ss
 len:ss.length=ps.length
 all:∀p∈ps,∃s,s∈ss/\T8 H s p/\s.QF os/\s.depth<=d
theorem zcr.push {H0 H:Hp}{os:List Str}{m kd p:Addr}{ps:List Addr}{d:Nat}{xs:List V}{ss:List Sn}(N:zcr H0 H os m kd ps d ss)(fm:H0 m=none)(hp:H p=none){s:Sn}(hs:T8 (upd H p (.tup xs)) s p)(ho:s.QF os)(hd:s.depth<=d+1)(hk:m≠kd)(fw:Few (ss++[s])) :
  zcr H0 (upd (upd H p (.tup xs)) m (.lst ((ps++[p]).map V.ref))) os m kd (ps++[p]) (d+1) (ss++[s]):=by
 have M:=N.M
 have hm:m≠p:=zy M.mad hp
 have mad':(upd H p (.tup xs)) m=some (.lst (ps.map V.ref)):=by rw[zB hm];exact M.mad
 have t1:yN H (upd H p (.tup xs)):=yN.new hp _
 have t2:yN (upd H p (.tup xs)) (upd (upd H p (.tup xs)) m (.lst ((ps++[p]).map V.ref))):=yN.lst mad' _
 refine⟨M.push fm hp hs ho hd hk,fw,by rw[ztA,ztA,N.len];rfl,fun q hq=>?_⟩
 rcases List.mem_append.mp hq with z | z
 ·obtain⟨s',q0,q1,q2,q3⟩:=N.all q z
  exact⟨s',List.mem_append_left _ q0,(q1.mono t1).mono t2,q2,by omega⟩
 ·have z':q=p:=by simpa using z
  subst z'
  exact⟨s,ztJ _ (List.mem_singleton.mpr rfl),hs.mono t2,ho,hd⟩
inductive Rg (K:Frag)(vs:List V)(H:Hp)(Q:VK)(E9:XK):Prop
 | mk (sc ol:Addr) (ns:List Int) (t m:Nat) (os:List Str) (_:vs=[.ref sc,.int t,.int m,.ref ol]) (_:zP K H sc (ns.map V.int)) (_:zP K H ol (os.map V.str)) (_:0<os.length) (_:os.length<=8) (_:0<m) (_:m<=40) (_:t<=60) (_:∀(p:Addr) (H':Hp) (s:Sn),Same H H'->T8 H' s p->s.QF os->s.depth<=m->(∃P:List Str,2*P.length<=m+1/\∀x∈s.sup,x∈P)->Q (.ref p) H'):Rg K vs H Q E9
end yU
namespace L2
open PySem PySem.Spec PyProof.Rows
section
variable {K:Frag}{σ:St}{js:List Nat}{tt:TT}{te:TE}{H:Hp}{Qf:Addr->Hp->List V->Prop}
def sgs (x:Str):List V:=x.cps.toList.map fun c=>V.str ⟨#[c]⟩
end
end L2
namespace L2
open PySem PySem.Spec PyProof.Rows PySem.Builtin PySem.Builtin.Str
def zjG (x:Str):It:={ go:=fun i _=>i<x.cps.size,R7:=fun i H v H'=>∃p c,x.cps[i]?=some c/\v=.ref p/\H p=none/\H'=upd H p (.tup [.int (i:Nat),.str ⟨#[c]⟩]),stop:=fun i _=>i=x.cps.size }
theorem zf1 {P:Program}{w:World}{K:Frag}{els:List Expr}{x1}{pt:Pos}(x:Str)(t:Tok)(e it:Addr)(hne:e≠it):Turn P w K (.Tuple els x1 pt) (zjG x) [e,it] e (fun i h=>(∃old,IsEnum h e it (i:Nat) old)/\h.IsStrIter it "str_ascii_iterator" x t i) where
 mem:=by simp
 obj:=fun i h st b hb=>by
  rcases List.mem_cons.mp hb with z | z
  ·obtain⟨⟨old,q⟩,_⟩:=st
   rw[z]
   exact⟨_,q,fun v hv=>by cases hv⟩
  ·have z':b=it:=by simpa using z
   obtain⟨_,o,q,c,d⟩:=st
   rw[z']
   exact⟨o,q,fun v hv=>by rw[d] at hv;cases hv⟩
 keep:=fun i h h' st k=>by
  obtain⟨⟨old,q⟩,o,q2,c,d⟩:=st
  exact⟨⟨old,k e (by simp) _ q⟩,o,k it (by simp) o q2,c,d⟩
 item:=by
  intro X hP hw hK hc i pins s σ H E I hf st hg
  subst hP hw hK
  obtain⟨⟨old,he⟩,hit⟩:=st
  have D:=Draws.strAscii (prog:=X.prog) (w:=X.w) (A:=X.A.in1) (I.ok.hd hc) it x t
  refine wpAny_pyNext_enum_itemD D he hit hg hne (by simpa using hne) fun u h1 tk hu out hit1 tup sz k1=>?_
  obtain⟨c,u',hc',rfl⟩:=hu
  refine⟨.ref s.heap.objs.size,rfl,wpAny_letOwnedTupleGo_enum out fun h2 he2 sb=>?_⟩
  have lte:=ztz he
  have k2:∀b o,b∉[e,it]->s.heap.get? b=some o->h2.get? b=some o:=fun b o hb q=>by
   have hb':b≠e/\b≠it:=by simpa using hb
   exact(sb.2 b hb'.1).trans (k1 b o hb'.1 hb'.2 q)
  have hit2:h2.IsStrIter it "str_ascii_iterator" x t (i+1):=by
   obtain⟨o,q,a,b⟩:=hit1
   exact⟨o,(sb.2 it (Ne.symm hne)).trans q,a,b⟩
  have J1:Inv X pins σ H { s with heap:=h2,toks:=tk+1 }:=I.zc0 (fp:=[e,it]) k2 (fun b hb=>by
   rcases List.mem_cons.mp hb with z | z
   ·rw[z];exact⟨_,he2⟩
   ·have z':b=it:=by simpa using z
    obtain⟨o,q,_⟩:=hit2
    rw[z'];exact⟨o,q⟩) hf
  have zi1:h2.get? s.heap.objs.size=some { cls:=.type "tuple", data:=.seq #[.int i tk,.str ⟨#[c]⟩ u'] }:=(sb.2 _ (Nat.ne_of_gt lte)).trans tup
  have ltc:∀y c,X.env.cells.lookup y=some c->c≠s.heap.objs.size:=fun y c q=>by
   obtain⟨v,o,z,_⟩:=I.cell y c q
   exact ztH (ztz z)
  have ltp:∀p∈X.pn++pins,p.1≠s.heap.objs.size:=fun p hp=>ztH (ztz (I.pin p hp).1)
  have J2:=J1.track (a:=s.heap.objs.size) (o:=.tup [.int (i:Nat),.str ⟨#[c]⟩]) I.fresh (Ne.symm (ztH I.lt)) I.sz ltc ltp ⟨by show 2<=sizeLine;decide,[.int i tk,.str ⟨#[c]⟩ u'],.cons ⟨_,rfl⟩ (.cons ⟨_,rfl⟩ .nil),⟨_,zi1,rfl,_,rfl⟩⟩
  refine⟨.ref s.heap.objs.size,_,J2,rfl,⟨_,c,hc',rfl,I.fresh,rfl⟩,⟨⟨.str ⟨#[c]⟩ u',?_⟩,hit2⟩,fun b hb=>?_⟩
  ·have:=he2
   simpa using this
  ·have lb:b<s.heap.objs.size:=by
    rcases List.mem_cons.mp hb with z | z
    ·rw[z];exact lte
    ·have z':b=it:=by simpa using z
     obtain⟨o,q,_⟩:=hit
     rw[z'];exact ztz q
   rw[zB (ztH lb)]
   exact(hf b hb).1
 done:=by
  intro X hP hw hK hc i pins s σ H E I hf st hg
  subst hP hw hK
  have e:i=x.cps.size:=hg
  subst e
  obtain⟨⟨old,he⟩,hit⟩:=st
  obtain⟨f0,f1,f2,f3,f4,f5⟩:=hf it (by simp)
  have D:=Draws.strAscii (prog:=X.prog) (w:=X.w) (A:=X.A.in1) (I.ok.hd hc) it x t
  exact wpAny_pyNext_enum_endD D he hit fun h' eb=>⟨rfl,I.turned (t':=s.toks) (fun b o hb q=>eb b o hb q) f0 f1 f3 f4 f5⟩
 self:=fun _ _ _ _ _ st h=>let ⟨⟨_,he⟩,_⟩:=st;wpAny_pyIter_enum he h
section
variable {X:Cx}
def zmT (ta:TA):TI:=fun σ H R=>ta σ H fun vs H1=>∃x:Str,vs=[.str x]/\(x.cps.all fun c=>decide (c<128))=true/\R (zjG x) H1
theorem zeC {l:Expr}{ta:TA}{p pos:Pos}{els:List Expr}{x1}{pt:Pos}(hg:Gl X "enumerate")(hm:X.mg "enumerate"=none)(ha:PA X [l] ta)(hs:starEach [l] X.env=[(false,eval l X.env)]:=by rfl) :
  PI X (.Tuple els x1 pt) (.Call (.Name "enumerate" p) [l] [] pos) (zmT ta):=by
 intro pins s σ H R I h
 refine Call_ (Wc I hg hm boot_enumerate (PyProof.Rows.callWith_type1 (wM (ha pos pins s σ H _ I h) fun us s1 ⟨vs,H1,I1,r1,q1⟩=>?_) hs rfl))
 obtain⟨x,e,asc,q⟩:=q1
 subst e
 obtain⟨u,rfl,ru⟩:=vals1 r1
 obtain⟨t,rfl⟩:=ru
 refine call_enumerate_str fun h' he hit hsz hk=>?_
 have ht:strIterType x="str_ascii_iterator" := by
  unfold strIterType
  rw[if_pos asc]
 rw[ht] at hit
 have J:Inv X pins σ H1 { s1 with heap:=h',toks:=s1.toks }:=I1.kept hk
 refine wpAny_pyIter_enum he ?_
 refine⟨s1.heap.objs.size+1,[s1.heap.objs.size+1,s1.heap.objs.size],_,_,H1,rfl,J,zf1 x t _ _ (Nat.ne_of_gt (Nat.lt_succ_self _)),⟨⟨_,he⟩,hit⟩,fun b hb=>?_,q⟩
 have gb:s1.heap.objs.size<=b:=by
  rcases List.mem_cons.mp hb with z | z
  ·rw[z];exact Nat.le_succ _
  ·have z':b=s1.heap.objs.size:=by simpa using z
   rw[z'];exact ztI _
 exact I1.zd7 gb (I1.hok.fresh gb)
end
def zn6 (i:Nat)(wi:TI)(xs:List Str)(js:List Nat)(g:TG)(tt:TT)(te:TE):TS:=fun D σ H=>zkD wi xs js g tt te σ H fun v H1=>D.nx (σ.set i (some v)) H1
theorem zh3 {X:Cx}{sc wO:Scope}{xs:List Str}{js:List Nat}{tg:Expr}{g:TG}{elt iter:Expr}{pos:Pos}{ifs:List Expr}{wi:TI}{tt:TT}{te:TE}{i:Nat}{y:Str}{py spos:Pos}(hN:X.N.Nodup)(hy:X.N[i]?=some y)(hl:Loc X.env.scope y)(hf:X.fn y=true\/X.env.scope.names.lookup y=some .local)
  (Yj:X.env.scope=wO)(L:zee wO sc xs (js.map fun j=>X.N.getD j ""))(hc:X.calm=true)(hi:PI X tg iter wi)(hg:∀(cl:List (Str×Addr)) (C:Addr) (s₂:Shared) (H₂:Hp) (fp:List Addr),PG (X.blk sc cl C (Uw X xs js) s₂ H₂ fp) tg g)(hjs:∀j∈js,j<X.N.length)
  (ht:∀(cl:List (Str×Addr)) (C:Addr) (s₂:Shared) (H₂:Hp) (fp:List Addr) (pins:List (Addr×Obj)) (s':Shared) (σ':St) (H':Hp) (Q:Bool->Hp->Prop),Inv (X.blk sc cl C (Uw X xs js) s₂ H₂ fp) pins σ' H' s'->tt σ' H' Q ->
   wpAny (model X.prog X.w) X.A (YB ifs (compEnvC sc cl C X.env)) (TP (X.blk sc cl C (Uw X xs js) s₂ H₂ fp) pins σ' Q) (fun _ _=>False) s')
  (he:∀(cl:List (Str×Addr)) (C:Addr) (s₂:Shared) (H₂:Hp) (fp:List Addr),PE (X.blk sc cl C (Uw X xs js) s₂ H₂ fp) elt te)
  (hsw:swapsWith (.ListComp elt [⟨tg,iter,ifs,0⟩] sc pos) (some (.Name y py)) spos.line X.env=pure true)(hs:∀x,foldedSetIterable iter X.env x=pure x:=by intro _;rfl) :
  PS X (.Assign [.Name y py] (.ListComp elt [⟨tg,iter,ifs,0⟩] sc pos) spos) (zn6 i wi xs js g tt te):=by
 intro pins s σ H D I h
 rw[exec_Assign_Name_used _ _ _ _ hsw]
 refine wpAny_bind (wpAny_standAt (wpAny_bind ?_))
 show wpAny _ _ (do let _ <-comprehension (.ListComp elt [⟨tg,iter,ifs,0⟩] sc pos) sc X.env _ (newList []) false (eval iter X.env) (some (assign (.Name y py) X.env))) _ _ s
 have pg:=z9 (X:=X) (i:=i) (x:=y) (pos:=py) hN hy hl hf
 refine wpAny_bind (wpAny_mono (zap (use:=some (assign (.Name y py) X.env)) (QQ:=fun _ z=>SP X pins D .next z) (Fin:=fun ys H=>∀p,H p=none->D.nx (σ.set i (some (.ref p))) (upd H p (.lst ys))) Yj L (rd:=Calm) (fun _ _ _ _ _ _ _=>hc) hi hg hjs ht he hs I h fun A C s5 H5 ys its k m5 J oD oC hDC p1 vs z hn fin=>?_) (fun _ z hq=>wpAny_pure (wpAny_pure hq)) fun _ _ e=>e)
 have J1:Inv X pins σ (upd H5 A (.lst ys)) s5:=J.track oD.free oD.loc oD.new oD.cel oD.pin ⟨z,its,k,vs,p1⟩
 obtain⟨oc,es,ep,hC,hd,hr⟩:=hn
 have Uv:∀v,oc.data≠.cell v:=fun v q=>by rw[hd] at q;cases q
 have hCA:C≠A:=Ne.symm hDC
 have fC:(upd H5 A (.lst ys)) C=none:=by rw[zB hCA];exact oC.free
 have J2:Inv X (pins++[(C,oc)]) σ (upd H5 A (.lst ys)) s5:=J1.Xv fun p hp=>(List.mem_append.mp hp).elim (fun q=>J1.pin p (ztJ _ q)) fun q=>by
  have e:p=(C,oc):=by simpa using q
  subst e
  exact⟨hC,fC,oC.loc,oC.fs,Uv⟩
 refine wpAny_mono (pg _ s5 σ _ (.ref A) (.ref A) (fun σ6 H6=>σ6=σ.set i (some (.ref A))/\H6=upd H5 A (.lst ys)) J2 rfl ⟨rfl,rfl⟩) (fun _ s6 ⟨σ6,H6,I6,e1,e2⟩=>?_) fun _ _ e=>e
 subst e1 e2
 obtain⟨c1,c2,_⟩:=I6.pin (C,oc) (ztJ _ (ztJ _ (by simp)))
 refine⟨m5,⟨oc,es,ep,c1,hd,hr⟩,fun h' hsb=>?_⟩
 have J3:Inv X pins (σ.set i (some (.ref A))) (upd H5 A (.lst ys)) s6:=I6.Xv fun p hp=>I6.pin p (ztJ _ (List.mem_append_left _ hp))
 have J4:Inv X pins (σ.set i (some (.ref A))) (upd H5 A (.lst ys)) { s6 with heap:=h',toks:=s6.toks }:=J3.turned (it:=C) (fun b o hb e=>hsb.extBut b o hb e) c2 oC.loc (.inr oC.new) oC.cel oC.pin
 exact⟨_,_,J4,fin A oD.free⟩
theorem zf2 {X:Cx}{sc wO:Scope}{x y:Str}{js:List Nat}{elt iter c:Expr}{px py pt pos:Pos}{x1:Nat}{wi:TI}{te:TE}{tt:TT}{i:Nat}{z:Str}{pz spos:Pos}(hN:X.N.Nodup)(hz:X.N[i]?=some z)(hl:Loc X.env.scope z)(hf:X.fn z=true\/X.env.scope.names.lookup z=some .local)(Yj:X.env.scope=wO)(L:zck wO sc x y (js.map fun j=>X.N.getD j ""))(hc:X.calm=true)(hi:PI X (.Tuple [.Name x px,.Name y py] x1 pt) iter wi)(hjs:∀j∈js,j<X.N.length)
  (ht:∀(cl:List (Str×Addr)) (C:Addr) (s₂:Shared) (H₂:Hp) (fp:List Addr),PT (X.blk sc cl C (Uw X [x,y] js) s₂ H₂ fp) c tt)
  (he:∀(cl:List (Str×Addr)) (C:Addr) (s₂:Shared) (H₂:Hp) (fp:List Addr),PE (X.blk sc cl C (Uw X [x,y] js) s₂ H₂ fp) elt te)
  (hsw:swapsWith (.ListComp elt [⟨.Tuple [.Name x px,.Name y py] x1 pt,iter,[c],0⟩] sc pos) (some (.Name z pz)) spos.line X.env=pure true)(hs:∀x,foldedSetIterable iter X.env x=pure x:=by intro _;rfl) :
  PS X (.Assign [.Name z pz] (.ListComp elt [⟨.Tuple [.Name x px,.Name y py] x1 pt,iter,[c],0⟩] sc pos) spos) (zn6 i wi [x,y] js (zft X.K 2 (VR (Yg 0) (VR (Yg 1) zfs))) tt te) :=
 zh3 hN hz hl hf Yj L.g hc hi (fun cl C s₂ H₂ fp=>zdh (X:=X.blk sc cl C (Uw X [x,y] js) s₂ H₂ fp) hc L.nd rfl rfl (lookup_relabel_local L.hx) (lookup_relabel_local L.hy)) hjs (fun cl C s₂ H₂ fp pins s' σ' H' Q I h=>wpAny_tests_one (ht cl C s₂ H₂ fp pins s' σ' H' Q I h)) he hsw hs
theorem zjH {K:Frag}{x:Str}{σ:St}{js:List Nat}{tt:TT}{te:TE}{H:Hp}{Qf:Addr->Hp->List V->Prop}{u v:Str}(Pv:Nat->List V->Hp->Prop)(h0:Pv 0 [] H)(hz:x.cps.size<=sizeLine)(hl:∀i ys H,Pv i ys H->ys.length<=i)
  (hs:∀(i:Nat) (c:Nat) ys H (p:Addr) (Q1:V->Hp->Prop) (Q2:Hp->Prop),x.cps[i]?=some c->Pv i ys H->H p=none->(∀z H3,Pv (i+1) (ys++[z]) H3->Q1 z H3)->(∀H2,Pv (i+1) ys H2->Q2 H2) ->
   tt (Lj σ js [some (.int (i:Nat)),some (.str ⟨#[c]⟩)]) (upd H p (.tup [.int (i:Nat),.str ⟨#[c]⟩])) fun b H2=>if b=true then te (Lj σ js [some (.int (i:Nat)),some (.str ⟨#[c]⟩)]) H2 Q1 else Q2 H2)
  (hd:∀ys H p,Pv x.cps.size ys H->H p=none->Qf p H ys) :
  ∃W:Nat->Nat->List V->Hp->Prop,(∃m,W 0 m [] H)/\∀i m zs H,W i m zs H ->
   ((zjG x).stop i H/\∀p,H p=none->Qf p H zs) \/
   ((zjG x).go i H/\zs.length<sizeLine/\∀w H',(zjG x).R7 i H w H'->∀o0:List (Option V),o0.length=[u,v].length->zft K 2 (VR (Yg 0) (VR (Yg 1) zfs)) w (Lj σ js o0) H' fun σ2 H1=>∃o1,σ2=Lj σ js o1/\o1.length=[u,v].length/\tt σ2 H1 fun b H2 =>
    if b=true then te σ2 H2 fun v H3=>∃m',m'<m/\W (i+1) m' (zs++[v]) H3 else ∃m',m'<m/\W (i+1) m' zs H2):=by
 refine⟨fun i m ys H=>m=x.cps.size-i/\i<=x.cps.size/\Pv i ys H,⟨x.cps.size,by simp,ztP _,h0⟩,?_⟩
 rintro i m ys H ⟨rfl,hi,pv⟩
 have hy:=hl i ys H pv
 by_cases hlt:i<x.cps.size
 ·refine .inr ⟨hlt,by omega,fun w H' y o0 l0=>?_⟩
  obtain⟨p,c,hc,rfl,hp,rfl⟩:=y
  have eσ:((Lj σ js o0).set 0 (some (.int (i:Nat)))).set 1 (some (.str ⟨#[c]⟩))=Lj σ js [some (.int (i:Nat)),some (.str ⟨#[c]⟩)]:=by
   match o0,l0 with
   | [a0,a1],_=>rfl
  refine⟨p,_,rfl,wG.of zf,rfl,_,_,rfl,_,_,rfl,rfl,[some (.int (i:Nat)),some (.str ⟨#[c]⟩)],eσ,rfl,?_⟩
  rw[eσ]
  exact hs i c ys H p _ _ hc pv hp (fun z H3 p3=>⟨_,Nat.sub_lt_sub_left hlt (Nat.lt_succ_self i),rfl,hlt,p3⟩) (fun H2 p2=>⟨_,Nat.sub_lt_sub_left hlt (Nat.lt_succ_self i),rfl,hlt,p2⟩)
 ·have e:i=x.cps.size:=by omega
  subst e
  exact .inl ⟨rfl,fun p hp=>hd ys H p pv hp⟩
end L2
namespace yU
open PySem L2 yF
abbrev Cb:=List (Option Bool)
def T6:Option Bool->Nat
 | none=>45
 | some false=>48
 | some true=>49
def cbS (q:Cb):Str:=⟨(q.map T6).toArray⟩
theorem zk9:∀{a b:Option Bool},T6 a=T6 b->a=b:=fun {a b} h=>by
 cases a with
 | none=>cases b with
  | none=>rfl
  | some y=>cases y<;>exact absurd h (by decide)
 | some x=>cases b with
  | none=>cases x<;>exact absurd h (by decide)
  | some y=>cases x<;>cases y<;>first | rfl | exact absurd h (by decide)
theorem Wm (q:Cb):(cbS q).cps.size=q.length:=by
 show(q.map T6).toArray.size=_
 simp
theorem wk (q:Cb):(cbS q).length=q.length:=Wm q
theorem Rh (q:Cb):(cbS q).cps.toList=q.map T6:=rfl
theorem zab (q:Cb):((cbS q).cps.all fun c=>decide (c<128))=true:=by
 rw[Array.all_eq_true_iff_forall_mem]
 intro c hc
 have hc:c∈(q.map T6).toArray:=hc
 rw[List.mem_toArray] at hc
 obtain⟨s,_,rfl⟩:=List.mem_map.mp hc
 exact decide_eq_true (by cases s with
  | none=>decide
  | some b=>cases b<;>decide)
theorem zf3 {q:Cb}{i c:Nat}(h:(cbS q).cps[i]?=some c):∃s,q[i]?=some s/\c=T6 s:=by
 have h:(q.map T6).toArray[i]?=some c:=h
 rw[List.getElem?_toArray,ztu] at h
 cases e:q[i]? with
 | none=>rw[e] at h;cases h
 | some s=>rw[e] at h;exact⟨s,rfl,(ztX h).symm⟩
theorem zdn {q:Cb}{i:Nat}{s:Option Bool}(h:q[i]?=some s):(cbS q).cps.toList[i]?=some (T6 s):=by
 rw[Rh,ztu,h];rfl
theorem Mt {q r:Cb}(h:cbS q=cbS r):q=r:=by
 have:q.map T6=r.map T6:=by
  have e:=congrArg (fun x:Str=>x.cps.toList) h
  exact e
 exact map_inj' this
where
 map_inj':∀{q r:Cb},q.map T6=r.map T6->q=r
  | [],[],_=>rfl
  | [],_::_,h=>by cases h
  | _::_,[],h=>by cases h
  | a::q,b::r,h=>by
   rw[ztR,ztR] at h
   injection h with h1 h2
   rw[zk9 h1,map_inj' h2]
theorem Mu (q r:Cb):cbS q++cbS r=cbS (q++r):=by
 show(⟨(q.map T6).toArray++(r.map T6).toArray⟩:Str)=⟨((q++r).map T6).toArray⟩
 rw[ztG,List.append_toArray]
theorem dash:Str.ofString "-"=cbS [none]:=by decide +kernel
theorem sr1 {a b:Nat}(h:a<=b):sliceRange (a:Int) (b:Int) 1=List.range' a (b-a):=by
 unfold sliceRange
 have e:(if (1:Int) > 0 then (if (a:Int)<b then ((b:Int)-a+1-1) / 1 else 0) else (if (a:Int) > b then ((a:Int)-b-1-1) / (-1) else 0)).toNat=b-a:=by
  rw[if_pos (by decide)]
  split
  ·rw[Int.ediv_one];omega
  ·show(0:Int).toNat=_
   rw[Int.toNat_zero];omega
 dsimp only
 rw[e,List.range'_eq_map_range]
 refine List.map_congr_left fun k _=>?_
 omega
theorem zeD (xs:List Nat):∀(a m:Nat),a+m<=xs.length->(List.range' a m).filterMap (xs[·]?)=(xs.drop a).take m
 | a,0,_=>by simp
 | a,m+1,h=>by
  rw[List.range'_succ,List.filterMap_cons,ztt (by omega)]
  dsimp only
  rw[zeD xs (a+1) m (by omega),List.drop_eq_getElem_cons (by omega:a<xs.length),List.take_succ_cons]
theorem zeE {x:Str}{lo hi:Option Int}{a b:Nat}(h:a<=b)(hb:b<=x.length)(e:Builtin.Str.strSliceIndices lo hi 1 x.length=sliceRange (a:Int) (b:Int) 1):Txt.slice x lo hi=⟨((x.cps.toList.drop a).take (b-a)).toArray⟩:=by
 unfold Txt.slice
 rw[e,sr1 h]
 have ls:x.cps.toList.length=x.length:=Array.length_toList
 split
 ·rename_i w
  have w2:(List.range' a (b-a)).length=x.length:=by simpa using w
  rw[List.length_range'] at w2
  have a0:a=0:=by omega
  have bn:b=x.length:=by omega
  subst a0
  rw[List.drop_zero,List.take_of_length_le (by omega)]
 ·congr 2
  have:=zeD x.cps.toList a (b-a) (by omega)
  rw[<-this]
  exact congrArg (fun f=>List.filterMap f (List.range' a (b-a))) (funext fun i=>(Array.getElem?_toList).symm)
theorem zf4 {x:Str}{i:Nat}(h:i<=x.length):Txt.slice x none (some (i:Int))=⟨(x.cps.toList.take i).toArray⟩:=by
 have:=zeE (x:=x) (lo:=none) (hi:=some (i:Int)) (a:=0) (b:=i) (ztP _) h (by
  unfold Builtin.Str.strSliceIndices
  dsimp only
  simp only[show(1:Int) > 0 by decide,if_true]
  rw[if_neg (by omega:¬(i:Int)<0)]
  congr 1
  omega)
 rw[List.drop_zero,Nat.sub_zero] at this
 exact this
theorem zf5 {x:Str}{i:Nat}(h:i<=x.length):Txt.slice x (some (i:Int)) none=⟨(x.cps.toList.drop i).toArray⟩:=by
 have:=zeE (x:=x) (lo:=some (i:Int)) (hi:=none) (a:=i) (b:=x.length) h (ztI _) (by
  unfold Builtin.Str.strSliceIndices
  dsimp only
  simp only[show(1:Int) > 0 by decide,if_true]
  rw[if_neg (by omega:¬(i:Int)<0)]
  congr 1
  omega)
 rw[List.take_of_length_le (by rw[List.length_drop];have:x.cps.toList.length=x.length:=Array.length_toList;omega)] at this
 exact this
theorem zhi {q:Cb}{i:Nat}(h:i<=q.length):Txt.slice (cbS q) none (some (i:Int))=cbS (q.take i):=by
 rw[zf4 (by rw[wk];exact h),Rh,<-List.map_take]
 rfl
theorem zhj {q:Cb}{i:Nat}(h:i<=q.length):Txt.slice (cbS q) (some (i:Int)) none=cbS (q.drop i):=by
 rw[zf5 (by rw[wk];exact h),Rh,<-List.map_drop]
 rfl
def yR (q:Cb)(b:Nat):Bool:=(List.range q.length).all fun i=>match q.getD i none with
 | none=>true
 | some v=>b.testBit i==v
def NP (q:Cb):List Nat:=(List.range q.length).filter fun i=>(q.getD i none).isSome
def vlC (q:Cb):List Bool:=(NP q).map fun i=>(q.getD i none).getD false
theorem zdo {q:Cb}:∀i∈NP q,i<q.length:=fun i h=>List.mem_range.mp (List.mem_filter.mp h).1
theorem zmU (q:Cb)(b:Nat):hav ((NP q).zip (vlC q)) b=yR q b:=by
 rw[zt8]
 unfold hav yR
 rw[ztW,ztW]
 have ez:(NP q).zip (vlC q)=(NP q).map fun i=>(i,(q.getD i none).getD false):=by
  unfold vlC
  rw[List.zip_map_right,List.zip_eq_zipWith,List.zipWith_self,zt4]
  rfl
 constructor
 ·intro h i hi
  cases e:q.getD i none with
  | none=>rfl
  | some v =>
   have:=h (i,v) (by rw[ez];exact List.mem_map.mpr ⟨i,List.mem_filter.mpr ⟨hi,by rw[e];rfl⟩,by rw[e];rfl⟩)
   exact this
 ·intro h x hx
  rw[ez] at hx
  obtain⟨i,hi,rfl⟩:=List.mem_map.mp hx
  obtain⟨h1,h2⟩:=List.mem_filter.mp hi
  have:=h i h1
  cases e:q.getD i none with
  | none=>rw[e] at h2;cases h2
  | some v=>rw[e] at this;exact this
end yU
namespace L2
open PySem PySem.Spec PyProof.Rows PySem.Builtin PySem.Builtin.Str yU
section
variable {X:Cx}
def zn7:R2:=fun x y H Q=>∃n:Nat,x=.str "-" /\ y=.int (n:Nat)/\n<=8/\Q (.str (cbS (List.replicate n none))) H
theorem zlb:∀n:Fin 9,MulOk (Str.ofString "-") ((n:Nat):Int):=by
 intro n
 refine⟨?_,?_,?_⟩<;>revert n<;>decide +kernel
theorem zlc:∀n:Fin 9,Txt.mul (Str.ofString "-") ((n:Nat):Int)=cbS (List.replicate n none):=by decide +kernel
theorem zld:Uq X (binaryOp .Mult) zn7:=by
 intro pins s σ H x y v u Q I rx ry h
 obtain⟨n,rfl,rfl,hn,q⟩:=h
 obtain⟨t,rfl⟩:=rx
 obtain⟨t',rfl⟩:=ry
 refine SB.mul (zlb ⟨n,by omega⟩) fun t2 k=>?_
 rw[zlc ⟨n,by omega⟩]
 exact⟨.str (cbS (List.replicate n none)),H,I.tok _,⟨_,rfl⟩,q⟩
end
section
variable {K:Frag}{σ:St}{js:List Nat}{te:TE}{H:Hp}{Qf:Addr->Hp->List V->Prop}
theorem zle {x:Str}(f:V->V)(hz:x.cps.size<=sizeLine)
  (hs:∀(v:V) H' (Q:V->Hp->Prop),v∈sgs x->Same H H'->(∀H3,Same H H3->Q (f v) H3)->te (Zj σ js (some v)) H' Q)
  (hd:∀H' l,Same H H'->H' l=none->Qf l H' ((sgs x).map f)) :
  ∃W:Nat->Nat->List V->Hp->Prop,(∃m,W 0 m [] H)/\∀i m ys H,W i m ys H ->
   ((Its x).stop i H/\∀p,H p=none->Qf p H ys) \/
   ((Its x).go i H/\ys.length<sizeLine/\∀v H',(Its x).R7 i H v H'->Sw (Zj σ js (some v)) H' fun b H2 =>
    if b=true then te (Zj σ js (some v)) H2 fun v H3=>∃m',m'<m/\W (i+1) m' (ys++[v]) H3 else ∃m',m'<m/\W (i+1) m' ys H2):=by
 have ls:(sgs x).length=x.cps.size:=by unfold sgs;rw[zts];exact Array.length_toList
 refine⟨fun i m ys H'=>m=x.cps.size-i/\i<=x.cps.size/\Same H H'/\ys=((sgs x).take i).map f,⟨_,rfl,ztP _,Same.refl _,rfl⟩,?_⟩
 rintro i m ys H1 ⟨rfl,hi,g,rfl⟩
 by_cases hlt:i<x.cps.size
 ·refine .inr ⟨hlt,by rw[zts,ztQ];omega,fun v H' y=>?_⟩
  obtain⟨e,c,hc,rfl⟩:=y
  subst e
  have hb:(sgs x)[i]?=some (.str ⟨#[c]⟩):=by
   unfold sgs
   rw[ztu,Array.getElem?_toList,hc]
   rfl
  refine zpI (Xi (hs _ _ _ (ztx hb) g fun H3 g3=>⟨_,Nat.sub_lt_sub_left hlt (Nat.lt_succ_self i),rfl,hlt,g3,?_⟩))
  rw[zY hb,ztG]
  rfl
 ·have e:i=x.cps.size:=by omega
  subst e
  refine .inl ⟨rfl,fun l hl=>?_⟩
  rw[<-ls,ztV]
  exact hd _ l g hl
end
end L2
namespace yU
open PySem L2 yF
def asc (x:Str):Prop:=(x.cps.all fun c=>decide (c<128))=true
def zhk (n:Nat)(x:Str):Bool:=decide (x.length=n)&&x.cps.toList.all fun c=>decide (c=45\/c=48\/c=49)
theorem zjI (n:Nat)(q:Cb):zhk n (cbS q)=decide (q.length=n):=by
 unfold zhk
 rw[wk,Rh]
 have:((q.map T6).all fun c=>decide (c=45\/c=48\/c=49))=true:=by
  rw[ztW]
  intro c hc
  obtain⟨s,_,rfl⟩:=List.mem_map.mp hc
  cases s with
  | none=>decide
  | some b=>cases b<;>decide
 rw[this,Bool.and_true]
def inB (n:Nat)(f:Nat->Bool)(q:Cb):Bool:=(List.range (2^n)).all fun b=>!yR q b||f b
theorem uf {n:Nat}{f:Nat->Bool}{q:Cb}:inB n f q=true↔∀b,b<2^n->yR q b=true->f b=true:=by
 unfold inB
 rw[ztW]
 constructor
 ·intro h b hb c
  have:=h b (List.mem_range.mpr hb)
  rw[c] at this
  simpa using this
 ·intro h b hb
  cases c:yR q b with
  | false=>rfl
  | true=>rw[h b (List.mem_range.mp hb) c];rfl
def wid (q:Cb):List Cb:=(NP q).map fun i=>q.set i none
def yj (n:Nat)(f:Nat->Bool)(q:Cb):Bool:=inB n f q&&!(wid q).any (inB n f)
theorem zmV {n R:Nat}{f:Nat->Bool}(t:zV n R f):decide (R=0)=(List.range (2^n)).all fun b=>!f b:=by
 rw[zt8,decide_eq_true_iff,ztW]
 constructor
 ·intro h b hb
  have:=t b
  rw[h,Nat.zero_testBit,decide_eq_true (List.mem_range.mp hb),Bool.true_and] at this
  rw[<-this];rfl
 ·intro h
  refine zhe fun b=>?_
  rw[t b,Nat.zero_testBit]
  by_cases hb:b<2^n
  ·have:=h b (List.mem_range.mpr hb)
   rw[decide_eq_true hb,Bool.true_and]
   cases e:f b with
   | false=>rfl
   | true=>rw[e] at this;cases this
  ·rw[decide_eq_false hb,Bool.false_and]
theorem zf6 {n R:Nat}{f:Nat->Bool}{q:Cb}(t:zV n R fun b=>yR q b&&!f b):decide (R=0)=inB n f q:=by
 rw[zmV t]
 unfold inB
 refine congrArg (fun g=>(List.range (2^n)).all g) (funext fun b=>?_)
 cases yR q b<;>cases f b<;>rfl
theorem zlf (c:Nat):inV (.str ⟨#[c]⟩) ((["-", "0", "1"]:List Str).map V.str)=decide (c=45\/c=48\/c=49):=by
 have e:(["-", "0", "1"]:List Str)=[⟨#[45]⟩,⟨#[48]⟩,⟨#[49]⟩]:=by decide +kernel
 rw[e,zt8,decide_eq_true_iff,zhd,List.contains_iff_mem]
 simp
theorem zaL {q:Cb}{i:Nat}{s:Option Bool}(h:q[i]?=some s):((NP q).filter fun j=>decide (j<i+1))=((NP q).filter fun j=>decide (j<i))++(if s.isSome then [i] else []):=by
 have hi:i<q.length:=(ztv.mp h).1
 have gd:q.getD i none=s:=by rw[ztF,h];rfl
 have key:∀m,m<=q.length->((NP q).filter fun j=>decide (j<m))=(List.range m).filter fun i=>(q.getD i none).isSome:=fun m hm=>by
  unfold NP
  rw[List.filter_filter]
  have e:List.range q.length=List.range m++List.range' m (q.length-m):=by
   have z:=List.range'_append_1 (s:=0) (m:=m) (n:=q.length-m)
   rw[Nat.zero_add] at z
   rw[List.range_eq_range',List.range_eq_range',z]
   congr 1
   omega
  rw[e,zt6]
  have e1:(List.range m).filter (fun a=>decide (a<m)&&(q.getD a none).isSome)=(List.range m).filter fun i=>(q.getD i none).isSome:=List.filter_congr fun j hj=>by rw[decide_eq_true (List.mem_range.mp hj),Bool.true_and]
  have e2:(List.range' m (q.length-m)).filter (fun a=>decide (a<m)&&(q.getD a none).isSome)=[]:=List.filter_eq_nil_iff.mpr fun j hj=>by
   have:=(List.mem_range'_1.mp hj).1
   rw[decide_eq_false (by omega:¬j<m)]
   simp
  rw[e1,e2,List.append_nil]
 rw[key (i+1) (by omega),key i (by omega),List.range_succ,zt6]
 congr 1
 rw[List.filter_cons,gd,List.filter_nil]
theorem zcs (q:Cb){i:Nat}(h:i<=q.length):((NP q).filter fun j=>decide (j<i)).length<=i:=by
 have sub:∀j∈(NP q).filter fun j=>decide (j<i),j∈List.range i:=fun j hj=>List.mem_range.mpr (of_decide_eq_true (List.mem_filter.mp hj).2)
 have nd:((NP q).filter fun j=>decide (j<i)).Nodup:=(List.nodup_range.filter _).filter _
 have:=zaw nd sub
 rw[ztK] at this
 exact this
theorem zeF {q:Cb}{i:Nat}(h:i∈NP q):∃v,q[i]?=some (some v):=by
 obtain⟨h1,h2⟩:=List.mem_filter.mp h
 have hi:=List.mem_range.mp h1
 rw[ztF,ztt hi] at h2
 rw[ztt hi]
 cases e:q[i] with
 | none=>rw[e] at h2;cases h2
 | some v=>exact⟨v,rfl⟩
section
variable (C D D':Addr)(K:Frag)
inductive Kl (vs:List V)(H:Hp)(Q:VK)(E9:XK):Prop
 | mk (b:Addr) (os:List Str) (rs:List Rm) (F:ZK) (x:Str) (_:vs=[.ref b,.str x]) (_:yP C H b os rs F) (_:asc x) (_:x.length<=1000) (_:∀H',Same H H'->Q (.bl (zhk os.length x)) H'):Kl vs H Q E9
inductive U4 (vs:List V)(H:Hp)(Q:VK)(E9:XK):Prop
 | mk (b:Addr) (os:List Str) (rs:List Rm) (F:ZK) (q:Cb) (_:vs=[.ref b,.str (cbS q)]) (_:yP C H b os rs F) (_:q.length=os.length) (_:∀H',Same H H'->Q .non H'):U4 vs H Q E9
inductive Ri (vs:List V)(H:Hp)(Q:VK)(E9:XK):Prop
 | mk (b l:Addr) (os:List Str) (rs:List Rm) (F:ZK) (qs:List Cb) (_:vs=[.ref b,.ref l]) (_:yP C H b os rs F) (_:zP K H l (qs.map fun q=>V.str (cbS q))) (_:(∀q∈qs,q.length=os.length)) (_:∀H',Same H H'->Q .non H'):Ri vs H Q E9
inductive Wn (vs:List V)(H:Hp)(Q:VK)(E9:XK):Prop
 | mk (q:Cb) (_:vs=[.str (cbS q)]) (_:q.length<=8) (_:∀(R:Nat) (H':Hp),Same H H'->zV q.length R (yR q)->Q (.int (R:Nat)) H'):Wn vs H Q E9
inductive zaM (vs:List V)(H:Hp)(Q:VK)(E9:XK):Prop
 | mk (b:Addr) (os:List Str) (rs:List Rm) (F:ZK) (k:Nat) (q:Cb) (_:vs=[.ref b,.int (k:Nat),.str (cbS q)]) (_:yP C H b os rs F) (_:k<rs.length) (_:q.length=os.length) (_:∀H',Same H H'->Q (.bl (inB os.length (tB rs k) q)) H'):zaM vs H Q E9
inductive Qs (vs:List V)(H:Hp)(Q:VK)(E9:XK):Prop
 | mk (q:Cb) (_:vs=[.str (cbS q)]) (_:q.length<=8) (_:∀(l:Addr) (H':Hp),Same H H'->H l=none->H' l=some (.lst ((wid q).map fun q=>V.str (cbS q)))->Q (.ref l) H'):Qs vs H Q E9
inductive Km (vs:List V)(H:Hp)(Q:VK)(E9:XK):Prop
 | mk (b:Addr) (os:List Str) (rs:List Rm) (F:ZK) (k:Nat) (q:Cb) (_:vs=[.ref b,.int (k:Nat),.str (cbS q)]) (_:yP C H b os rs F) (_:k<rs.length) (_:q.length=os.length) (_:∀H',Same H H'->Q (.bl (yj os.length (tB rs k) q)) H'):Km vs H Q E9
end
end yU
namespace L2
open PySem PySem.Spec PyProof.Rows
theorem zlg {x:Str}{g:TG}{tb:TS}{D:Ends}{σ:St}{H:Hp}(Pv:Nat->St->Hp->Prop)(h0:Pv 0 σ H)
  (hs:∀i c σ H,x.cps[i]?=some c->Pv i σ H->g (.str ⟨#[c]⟩) σ H fun σ2 H2=>tb { D with nx:=Pv (i+1),ct:=Pv (i+1),bk:=D.nx } σ2 H2)(hd:∀ σ H,Pv x.cps.size σ H->D.nx σ H) :
  ∃W:Nat->Nat->St->Hp->Prop,(∃m,W 0 m σ H)/\∀i m σ H,W i m σ H ->
   ((Its x).stop i H/\D.nx σ H)\/((Its x).go i H/\∃N:St->Hp->Prop,(∀ σ' H',N σ' H'->∃m',m'<m/\W (i+1) m' σ' H')/\∀v H',(Its x).R7 i H v H'->g v σ H' fun σ2 H2=>tb { D with nx:=N,ct:=N,bk:=D.nx } σ2 H2):=by
 refine⟨fun i m σ H=>m=x.cps.size-i/\i<=x.cps.size/\Pv i σ H,⟨x.cps.size,by simp,ztP _,h0⟩,?_⟩
 rintro i m σ H ⟨rfl,hi,p⟩
 by_cases hlt:i<x.cps.size
 ·refine .inr ⟨hlt,Pv (i+1),fun σ' H' p'=>⟨x.cps.size-(i+1),by omega,rfl,hlt,p'⟩,fun v H' y=>?_⟩
  obtain⟨e,c,hc,rfl⟩:=y
  subst e
  exact hs i c σ _ hc p
 ·have e:i=x.cps.size:=by omega
  subst e
  exact .inl ⟨rfl,hd σ H p⟩
section
variable {K:Frag}{σ:St}{js:List Nat}{tt:TT}{te:TE}{H:Hp}{Qf:Addr->Hp->List V->Prop}
theorem zlh {a:Addr}{xs:List V}(Pv:Nat->List V->Hp->Prop)(h0:Pv 0 [] H)(hz:xs.length<=sizeLine)(hl:∀i ys H,i<=xs.length->Pv i ys H->wG K H a xs/\ys.length<=i)
  (hs:∀(i:Nat) x ys H (Q1:V->Hp->Prop) (Q2:Hp->Prop),xs[i]?=some x->Pv i ys H->(∀z H3,Pv (i+1) (ys++[z]) H3->Q1 z H3)->(∀H2,Pv (i+1) ys H2->Q2 H2)->tt (Zj σ js (some x)) H fun b H2=>if b=true then te (Zj σ js (some x)) H2 Q1 else Q2 H2)
  (hd:∀ys H p,Pv xs.length ys H->H p=none->Qf p H ys) :
  ∃W:Nat->Nat->List V->Hp->Prop,(∃m,W 0 m [] H)/\∀i m ys H,W i m ys H ->
   ((Itt K a).stop i H/\∀p,H p=none->Qf p H ys) \/
   ((Itt K a).go i H/\ys.length<sizeLine/\∀x H',(Itt K a).R7 i H x H'->tt (Zj σ js (some x)) H' fun b H2 =>
    if b=true then te (Zj σ js (some x)) H2 fun v H3=>∃m',m'<m/\W (i+1) m' (ys++[v]) H3 else ∃m',m'<m/\W (i+1) m' ys H2):=by
 refine⟨fun i m ys H=>m=xs.length-i/\i<=xs.length/\Pv i ys H,⟨xs.length,by simp,ztP _,h0⟩,?_⟩
 rintro i m ys H ⟨rfl,hi,p⟩
 obtain⟨q,hy⟩:=hl i ys H hi p
 by_cases hlt:i<xs.length
 ·refine .inr ⟨⟨xs,xs[i],q,by simp[hlt]⟩,by omega,fun v H' y=>?_⟩
  obtain⟨e,y⟩:=y
  subst e
  exact hs i v ys _ _ _ (y xs q) p (fun z H3 p3=>⟨_,Nat.sub_lt_sub_left hlt (Nat.lt_succ_self i),rfl,hlt,p3⟩) (fun H2 p2=>⟨_,Nat.sub_lt_sub_left hlt (Nat.lt_succ_self i),rfl,hlt,p2⟩)
 ·have e:i=xs.length:=by omega
  subst e
  exact .inl ⟨⟨xs,q,ztI _⟩,fun r hr=>hd ys H r p hr⟩
end
end L2
namespace yU
open PySem L2 yF
def mtS (s:Option Bool)(v:Bool):Bool:=match s with
 | none=>true
 | some w=>v==w
def cbR (q:Cb):List (List Bool):=(allR q.length).filter fun r=>yR q (zu r)
def zf7 (s:Option Bool)(r:List Bool):List (List Bool):=(if mtS s false then [r++[false]] else [])++(if mtS s true then [r++[true]] else [])
theorem zeG {q:Cb}{s:Option Bool}{r:List Bool}{v:Bool}(h:r.length=q.length):yR (q++[s]) (zu (r++[v]))=(yR q (zu r)&&mtS s v):=by
 unfold yR
 rw[ztA,zt0,List.range_succ,List.all_append]
 congr 1
 ·rw[zt8,ztW,ztW]
  refine forall_congr' fun i=>forall_congr' fun hi=>?_
  have hi:=List.mem_range.mp hi
  have e1:(q++[s]).getD i none=q.getD i none:=by
   rw[ztF,ztZ hi,<-ztF]
  have e2:(zu (r++[v])).testBit i=(zu r).testBit i:=by
   rw[xQ,xQ,ztZ (by omega)]
  rw[e1,e2]
 ·have e1:(q++[s]).getD q.length none=s:=by
   rw[ztF,List.getElem?_append_right (ztI _),Nat.sub_self]
   rfl
  have e2:(zu (r++[v])).testBit q.length=v:=by
   rw[xQ,List.getElem?_append_right (by omega),h,Nat.sub_self]
   rfl
  rw[List.all_cons,List.all_nil,Bool.and_true,e1,e2]
  cases s<;>rfl
theorem zjJ (q:Cb)(s:Option Bool):cbR (q++[s])=(cbR q).flatMap (zf7 s):=by
 unfold cbR
 rw[ztA,zt0]
 show((allR q.length).flatMap fun r=>[r++[false],r++[true]]).filter _=_
 have key:∀L:List (List Bool),(∀r∈L,r.length=q.length)->(L.flatMap fun r=>[r++[false],r++[true]]).filter (fun r=>yR (q++[s]) (zu r))=(L.filter fun r=>yR q (zu r)).flatMap (zf7 s):=by
  intro L
  induction L with
  | nil=>intro _;rfl
  | cons r L ih =>
   intro h
   have hr:=h r (ztM ..)
   rw[List.flatMap_cons,zt6,ih fun r' h'=>h r' (ztD _ h')]
   have e:[r++[false],r++[true]].filter (fun r=>yR (q++[s]) (zu r))=if yR q (zu r) then zf7 s r else []:=by
    rw[List.filter_cons,List.filter_cons,List.filter_nil,zeG hr,zeG hr]
    unfold zf7
    cases yR q (zu r)<;>cases mtS s false<;>cases mtS s true<;>rfl
   rw[e,List.filter_cons]
   cases yR q (zu r)<;>simp
 exact key _ fun r hr=>vQ _ r hr
theorem zeH (q:Cb):(cbR q).length<=2^q.length:=ztO (zt1 _ _) (by rw[XS];exact ztI _)
theorem zeI (s:Option Bool)(b:Bool):inV (.str ⟨#[T6 s]⟩) [.str "-", .str (zdj b)]=mtS s b:=by
 cases s with
 | none=>cases b<;>decide +kernel
 | some v=>cases v<;>cases b<;>decide +kernel
section
variable (C:Addr)(K:Frag)
inductive U5 (vs:List V)(H:Hp)(Q:VK)(E9:XK):Prop
 | mk (q:Cb) (_:vs=[.str (cbS q)]) (_:q.length<=8) (_:∀(l:Addr) (H':Hp) (ps:List Addr),Same H H'->H l=none->H' l=some (.lst (ps.map V.ref))->Paired (zfV H H') ps (cbR q)->Q (.ref l) H'):U5 vs H Q E9
def zeJ (H:Hp)(l:Addr)(n:Nat)(f:Nat->Bool):Prop:=∃ps:List Addr,H l=some (.lst (ps.map V.ref))/\Paired (fun q r=>H q=some (.lst (zX r))) ps ((allR n).filter fun r=>f (zu r))
inductive zaN (vs:List V)(H:Hp)(Q:VK)(E9:XK):Prop
 | mk (q:Cb) (yl:Addr) (f:Nat->Bool) (_:vs=[.str (cbS q),.ref yl]) (_:q.length<=8) (_:zeJ H yl q.length f) (_:∀H',Same H H'->Q (.bl (inB q.length f q)) H'):zaN vs H Q E9
inductive PJ (vs:List V)(H:Hp)(Q:VK)(E9:XK):Prop
 | mk (q:Cb) (yl:Addr) (f:Nat->Bool) (_:vs=[.str (cbS q),.ref yl]) (_:q.length<=8) (_:zeJ H yl q.length f) (_:∀H',Same H H'->Q (.bl (yj q.length f q)) H'):PJ vs H Q E9
end
theorem zeJ.mono {H H':Hp}{l:Addr}{n:Nat}{f:Nat->Bool}(h:zeJ H l n f)(g:Same H H'):zeJ H' l n f:=let ⟨ps,a,b⟩:=h;⟨ps,g _ _ a,wJ (fun _ _ z=>g _ _ z) b⟩
theorem zhl {n:Nat}{f:Nat->Bool}{r:List Bool}(hr:r.length=n):r∈(allR n).filter (fun r=>f (zu r))↔f (zu r)=true:=by
 rw[List.mem_filter]
 refine⟨fun h=>h.2,fun h=>⟨?_,h⟩⟩
 have:=zaK r
 rwa [hr] at this
theorem zeK {f:Nat->Bool}{q:Cb}:inB q.length f q=(cbR q).all fun r=>f (zu r):=by
 rw[zt8,uf,ztW]
 unfold cbR
 constructor
 ·intro h r hr
  obtain⟨h1,h2⟩:=List.mem_filter.mp hr
  have hl:=vQ _ r h1
  exact h (zu r) (by have:=Yl r;rwa [hl] at this) h2
 ·intro h b hb c
  obtain⟨r,hr,e⟩:=zjK hb
  have:=h r (List.mem_filter.mpr ⟨by have:=zaK r;rwa [hr] at this,by rw[e];exact c⟩)
  rwa [e] at this
where
 zjK {n b:Nat} (hb:b<2^n):∃r:List Bool,r.length=n/\zu r=b:=by
  refine⟨(List.range n).map fun i=>b.testBit i,by rw[zts,ztK],zhe fun i=>?_⟩
  rw[xQ,ztu]
  by_cases hi:i<n
  ·rw[List.getElem?_range hi];rfl
  ·rw[zt2 (by rw[ztK];omega)]
   exact(Nat.testBit_lt_two_pow (ztB hb (ztY (by decide) (by omega)))).symm
end yU
namespace L2
open PySem
theorem ifA {c:Bool}{A B:Prop}(e:c=true)(h:A):if c=true then A else B:=by rw[if_pos e];exact h
theorem ifB {c:Bool}{A B:Prop}(e:c=false)(h:B):if c=true then A else B:=by rw[e,if_neg ztw];exact h
end L2
namespace yU
open PySem L2 yF
abbrev ext (p:Nat)(q:Cb):Cb:=List.replicate p none++q
theorem Zb {q:Cb}{b:Nat}:yR q b=true↔∀i v,q[i]?=some (some v)->b.testBit i=v:=by
 unfold yR
 rw[ztW]
 constructor
 ·intro h i v e
  have hi:i<q.length:=(ztv.mp e).1
  have y:=h i (List.mem_range.mpr hi)
  rw[ztF,e] at y
  simpa using y
 ·intro h i hi
  rw[ztF]
  cases e:q[i]? with
  | none=>rfl
  | some s =>
   cases s with
   | none=>rfl
   | some v =>
    show(b.testBit i==v)=true
    rw[h i v e]
    simp
theorem zaO {p i:Nat}{q:Cb}{v:Bool}(h:(ext p q)[i]?=some (some v)):p<=i/\q[i-p]?=some (some v):=by
 unfold ext at h
 rcases Nat.lt_or_ge i p with z | z
 ·rw[ztZ (by rw[List.length_replicate];exact z),List.getElem?_replicate,if_pos z] at h
  cases h
 ·rw[List.getElem?_append_right (by rw[List.length_replicate];exact z),List.length_replicate] at h
  exact⟨z,h⟩
theorem zdq {p i:Nat}{q:Cb}:(ext p q)[p+i]?=q[i]?:=by
 unfold ext
 rw[List.getElem?_append_right (by rw[List.length_replicate];omega),List.length_replicate,Nat.add_sub_cancel_left]
theorem zhm {p i:Nat}{q:Cb}{s:Option Bool}:(ext p q).set (p+i) s=ext p (q.set i s):=by
 unfold ext
 rw[List.set_append,List.length_replicate,if_neg (by omega),Nat.add_sub_cancel_left]
theorem Rj {p:Nat}{q:Cb}:ext p (none::q)=ext (p+1) q:=by
 unfold ext
 rw[List.replicate_succ',List.append_assoc]
 rfl
theorem zli {p:Nat}{q:Cb}:(ext p q).length=p+q.length:=by
 unfold ext
 rw[ztA,List.length_replicate]
theorem yw {n p:Nat}{f:Nat->Bool}{q:Cb}:yj n f (ext p q)=true↔inB n f (ext p q)=true/\∀i v,q[i]?=some (some v)->inB n f (ext p (q.set i none))=false:=by
 unfold yj
 rw[ztU]
 refine and_congr_right fun _=>?_
 rw[Bool.not_eq_true',List.any_eq_false]
 unfold wid
 constructor
 ·intro h i v e
  have hi:i<q.length:=(ztv.mp e).1
  have m:p+i∈NP (ext p q):=List.mem_filter.mpr ⟨List.mem_range.mpr (by rw[zli];omega),by rw[ztF,zdq,e];rfl⟩
  have y:=h _ (List.mem_map.mpr ⟨_,m,rfl⟩)
  rw[zhm] at y
  simpa using y
 ·intro h r hr
  obtain⟨i,hi,rfl⟩:=List.mem_map.mp hr
  obtain⟨v,e⟩:=zeF hi
  obtain⟨z,e'⟩:=zaO e
  have y:=h _ _ e'
  have:i=p+(i-p):=by omega
  rw[this,zhm,y]
  exact ztw
section
variable {n p:Nat}{f:Nat->Bool}
abbrev side (f:Nat->Bool)(p:Nat)(v:Bool):Nat->Bool:=fun b=>f (zM b p v)
abbrev both (f:Nat->Bool)(p:Nat):Nat->Bool:=fun b=>side f p false b&&side f p true b
theorem zdr {q:Cb}{b:Nat}{v:Bool}:yR (ext (p+1) q) (zM b p v)=yR (ext (p+1) q) b:=by
 rw[zt8,Zb,Zb]
 have:∀i v',(ext (p+1) q)[i]?=some (some v')->(zM b p v).testBit i=b.testBit i:=fun i v' e=>by
  have:=(zaO e).1
  rw[zQ,if_neg (by omega)]
 exact⟨fun h i v' e=>by rw[<-this i v' e];exact h i v' e,fun h i v' e=>by rw[this i v' e];exact h i v' e⟩
theorem zds {q:Cb}{b:Nat}{v:Bool}:yR (ext p (some v::q)) b=(b.testBit p==v&&yR (ext (p+1) q) b):=by
 rw[zt8,ztU,Zb,Zb,beq_iff_eq]
 constructor
 ·intro h
  refine⟨h p v (by have:=zdq (p:=p) (i:=0) (q:=some v::q);rw[Nat.add_zero] at this;rw[this];rfl),fun i v' e=>?_⟩
  obtain⟨z,e'⟩:=zaO e
  refine h i v' ?_
  have:i=p+(i-(p+1)+1):=by omega
  rw[this,zdq]
  exact e'
 ·rintro⟨h1,h2⟩ i v' e
  obtain⟨z,e'⟩:=zaO e
  rcases Nat.eq_or_lt_of_le z with y | y
  ·subst y
   rw[Nat.sub_self] at e'
   cases e'
   exact h1
  ·refine h2 i v' ?_
   have e1:i=p+1+(i-(p+1)):=by omega
   rw[e1,zdq]
   have e2:i-p=(i-(p+1))+1:=by omega
   rw[e2] at e'
   exact e'
theorem Qt (hp:p<n)(q:Cb):inB n f (ext (p+1) q)=inB n (both f p) (ext (p+1) q):=by
 rw[zt8,uf,uf]
 constructor
 ·intro h b hb c
  show(f _&&f _)=true
  rw[h _ (zT hb hp) (by rw[zdr];exact c),h _ (zT hb hp) (by rw[zdr];exact c)]
  rfl
 ·intro h b hb c
  have y:(f (zM b p false)&&f (zM b p true))=true:=h b hb c
  rw[ztU] at y
  have:=yD b p
  cases e:b.testBit p with
  | false=>rw[e] at this;rw[<-this];exact y.1
  | true=>rw[e] at this;rw[<-this];exact y.2
theorem zac (hp:p<n)(q:Cb)(v:Bool):inB n f (ext p (some v::q))=inB n (side f p v) (ext (p+1) q):=by
 rw[zt8,uf,uf]
 constructor
 ·intro h b hb c
  refine h _ (zT hb hp) ?_
  rw[zds,zdr,c,zQ,if_pos rfl]
  simp
 ·intro h b hb c
  rw[zds,ztU,beq_iff_eq] at c
  have y:f (zM b p v)=true:=h b hb c.2
  have e:=yD b p
  rw[c.1] at e
  rw[<-e]
  exact y
theorem zjL (q:Cb)(v:Bool)(h:inB n (both f p) q=true):inB n (side f p v) q=true:=by
 rw[uf] at h ⊢
 intro b hb c
 have y:(f (zM b p false)&&f (zM b p true))=true:=h b hb c
 rw[ztU] at y
 cases v
 ·exact y.1
 ·exact y.2
theorem zaP (hp:p<n)(q:Cb):yj n f (ext p (none::q))=yj n (both f p) (ext (p+1) q):=by
 rw[Rj,zt8,yw,yw,Qt hp]
 refine and_congr_right fun _=>⟨fun h i v e=>?_,fun h i v e=>?_⟩
 ·rw[<-Qt hp];exact h i v e
 ·rw[Qt hp];exact h i v e
theorem PK (hp:p<n)(q:Cb)(v:Bool):yj n f (ext p (some v::q))=(yj n (side f p v) (ext (p+1) q)&&!yj n (both f p) (ext (p+1) q)):=by
 rw[zt8,ztU,yw,yw,zac hp]
 constructor
 ·rintro⟨h1,h2⟩
  have h0:=h2 0 v rfl
  have h0:inB n f (ext p (none::q))=false:=h0
  rw[Rj,Qt hp] at h0
  refine⟨⟨h1,fun i u e=>?_⟩,?_⟩
  ·have y:inB n f (ext p (some v::q.set i none))=false:=h2 (i+1) u e
   rw[zac hp] at y
   exact y
  ·cases e:yj n (both f p) (ext (p+1) q) with
   | false=>rfl
   | true=>rw[yw] at e;rw[e.1] at h0;cases h0
 ·rintro⟨⟨h1,h2⟩,h3⟩
  have nb:inB n (both f p) (ext (p+1) q)=false:=by
   cases e:inB n (both f p) (ext (p+1) q) with
   | false=>rfl
   | true =>
    exfalso
    have:yj n (both f p) (ext (p+1) q)=true:=yw.mpr ⟨e,fun i u e'=>by
     cases e2:inB n (both f p) (ext (p+1) (q.set i none)) with
     | false=>rfl
     | true=>have:=zjL _ v e2;rw[h2 i u e'] at this;cases this⟩
    rw[this] at h3
    cases h3
  refine⟨h1,fun i u e=>?_⟩
  cases i with
  | zero =>
   show inB n f (ext p (none::q))=false
   rw[Rj,Qt hp]
   exact nb
  | succ i =>
   show inB n f (ext p (some v::q.set i none))=false
   rw[zac hp]
   exact h2 i u e
end
theorem zjM:∀(q:Cb) (p:Nat),∃b,b<2^(p+q.length)/\yR (ext p q) b=true
 | [],p=>⟨0,Nat.pow_pos (by decide),Zb.mpr fun i v e=>by have:=(zaO e).2;cases this⟩
 | s::q,p=>by
  obtain⟨b,h1,h2⟩:=zjM q (p+1)
  have e1:p+(s::q).length=p+1+q.length:=by rw[ztE];omega
  cases s with
  | none=>exact⟨b,by rw[e1];exact h1,by rw[Rj];exact h2⟩
  | some v=>exact⟨zM b p v,by rw[e1];exact zT h1 (by omega),by rw[zds,zdr,h2,zQ,if_pos rfl];simp⟩
def ltC:Cb->Cb->Prop
 | a::x,b::y=>T6 a<T6 b\/(a=b/\ltC x y)
 | _,_=>False
theorem PL:∀{a b:Cb},ltC a b->a≠b
 | a::x,b::y,h=>fun e=>by
  cases e
  rcases h with h | h
  ·exact Nat.lt_irrefl _ h
  ·exact PL h.2 rfl
def bnd:Nat->Nat
 | 0=>1
 | 1=>1
 | 2=>2
 | d+3=>3*bnd (d+2)
structure T7 (n p:Nat)(f:Nat->Bool)(qs:List Cb):Prop where
 mem:∀q,q∈qs↔q.length=n-p/\yj n f (ext p q)=true
 up:qs.Pairwise ltC
 len:qs.length<=3^(n-p-1)
 fw:qs.length<=bnd (n-p)
theorem T7.nd {n p:Nat}{f:Nat->Bool}{qs:List Cb}(h:T7 n p f qs):qs.Nodup:=h.up.imp PL
theorem zhn:∀d,1<=bnd d
 | 0=>ztI _
 | 1=>ztI _
 | 2=>by decide
 | d+3=>by
  have:=zhn (d+2)
  show 1<=3*bnd (d+2)
  omega
theorem T7.none_of {n p:Nat}{f:Nat->Bool}(hp:p<=n)(h:∀b,b<2^n->f b=false){q:Cb}(l:q.length=n-p):yj n f (ext p q)=false:=by
 cases e:yj n f (ext p q) with
 | false=>rfl
 | true =>
  rw[yw] at e
  obtain⟨b,h1,h2⟩:=zjM q p
  have e1:p+q.length=n:=by omega
  rw[e1] at h1
  have y:=uf.mp e.1 b h1 h2
  rw[h b h1] at y
  cases y
theorem T7.no {n p:Nat}{f:Nat->Bool}(hp:p<=n)(h:∀b,b<2^n->f b=false):T7 n p f [] :=
 ⟨fun q=>⟨fun z=>(by cases z),fun⟨l,e⟩=>(by rw[T7.none_of hp h l] at e;cases e)⟩,.nil,ztP _,ztP _⟩
theorem T7.yes {n p:Nat}{f:Nat->Bool}(hp:p<=n)(h:∀b,b<2^n->f b=true):T7 n p f [List.replicate (n-p) none]:=by
 have al:∀q,inB n f q=true:=fun q=>uf.mpr fun b hb _=>h b hb
 refine⟨fun q=>?_,List.pairwise_singleton _ _,Nat.pow_pos (by decide),zhn _⟩
 rw[List.mem_singleton,yw]
 constructor
 ·rintro rfl
  refine⟨List.length_replicate,al _,fun i v e=>?_⟩
  rw[List.getElem?_replicate] at e
  split at e<;>cases e
 ·rintro⟨l,_,e⟩
  refine List.ext_getElem? fun i=>?_
  rw[List.getElem?_replicate]
  rcases Nat.lt_or_ge i (n-p) with z | z
  ·rw[if_pos z]
   cases e':q[i]? with
   | none=>rw[List.getElem?_eq_none_iff] at e';omega
   | some s =>
    cases s with
    | none=>rfl
    | some v=>have:=e i v e';rw[al] at this;cases this
  ·rw[if_neg (by omega),List.getElem?_eq_none_iff]
   omega
theorem T7.nil {n p:Nat}{f:Nat->Bool}{qs:List Cb}(P:T7 n p f qs)(hp:p<=n)(h:∀b,b<2^n->f b=false):qs=[]:=by
 refine List.eq_nil_iff_forall_not_mem.mpr fun q hq=>?_
 obtain⟨l,e⟩:=(P.mem q).mp hq
 rw[T7.none_of hp h l] at e
 cases e
theorem zjN {n p:Nat}{f:Nat->Bool}{E Z O:List Cb}(hp:p+2=n)(he:T7 n (p+1) (both f p) E)(hz:T7 n (p+1) (side f p false) Z)(ho:T7 n (p+1) (side f p true) O) :
  E.length+(Z.filter fun q=>!E.contains q).length+(O.filter fun q=>!E.contains q).length<=2:=by
 have e0:n-(p+1)-1=0:=by omega
 have le:=he.len
 have lz:=hz.len
 have lo:=ho.len
 rw[e0,Nat.pow_zero] at le lz lo
 have l1:=zt1 (fun q=>!E.contains q) Z
 have l2:=zt1 (fun q=>!E.contains q) O
 refine Nat.le_of_not_lt fun gt=>?_
 obtain⟨e,rfl⟩:=List.length_eq_one_iff.mp (show E.length=1 by omega)
 obtain⟨z,rfl⟩:=List.length_eq_one_iff.mp (show Z.length=1 by omega)
 obtain⟨o,rfl⟩:=List.length_eq_one_iff.mp (show O.length=1 by omega)
 have nz:z≠e:=fun h=>by
  subst h
  have:([z].filter fun q=>![z].contains q).length=0:=by simp
  rw[this] at gt
  omega
 have no:o≠e:=fun h=>by
  subst h
  have:([o].filter fun q=>![o].contains q).length=0:=by simp
  rw[this] at gt
  omega
 obtain⟨ae,be⟩:=(he.mem e).mp (List.mem_singleton.mpr rfl)
 obtain⟨az,bz⟩:=(hz.mem z).mp (List.mem_singleton.mpr rfl)
 obtain⟨ao,bo⟩:=(ho.mem o).mp (List.mem_singleton.mpr rfl)
 have q1:p+1<n:=by omega
 have one:∀{c:Cb},c.length=n-(p+1)->∃s,c=[s]:=fun {c} h=>List.length_eq_one_iff.mp (by omega)
 obtain⟨se,rfl⟩:=one ae
 obtain⟨sz,rfl⟩:=one az
 obtain⟨so,rfl⟩:=one ao
 have ie:=(yw.mp be).1
 have key:∀(v:Bool) (s:Option Bool),[s]≠[se]->yj n (side f p v) (ext (p+1) [s])=true->inB n (side f p v) (ext (p+1) [none])=true:=fun v s ns h=>by
  have hs:=zjL _ v ie
  have hp:=yw.mp h
  cases s with
  | none=>exact hp.1
  | some u =>
   cases se with
   | none=>exact hs
   | some t =>
    have ut:u=!t:=by
     cases u<;>cases t<;>first | rfl | exact absurd rfl ns
    have a1:=hp.1
    rw[zac q1] at a1 hs
    rw[Rj,Qt q1]
    rw[uf] at a1 hs ⊢
    intro b hb c
    show(side (side f p v) (p+1) false b&&side (side f p v) (p+1) true b)=true
    have x1:=a1 b hb c
    have x2:=hs b hb c
    subst ut
    cases t
    ·rw[show side (side f p v) (p+1) true b=true from x1,show side (side f p v) (p+1) false b=true from x2];rfl
    ·rw[show side (side f p v) (p+1) false b=true from x1,show side (side f p v) (p+1) true b=true from x2];rfl
 have k0:=key false sz nz bz
 have k1:=key true so no bo
 have kb:inB n (both f p) (ext (p+1) [none])=true:=by
  rw[uf] at k0 k1 ⊢
  intro b hb c
  show(side f p false b&&side f p true b)=true
  rw[k0 b hb c,k1 b hb c];rfl
 cases se with
 | some t =>
  have:=(yw.mp be).2 0 t rfl
  rw[show inB n (both f p) (ext (p+1) ([some t].set 0 none))=true from kb] at this
  cases this
 | none =>
  cases sz with
  | none=>exact nz rfl
  | some u =>
   have:=(yw.mp bz).2 0 u rfl
   rw[show inB n (side f p false) (ext (p+1) ([some u].set 0 none))=true from k0] at this
   cases this
theorem T7.step {n p:Nat}{f:Nat->Bool}{E Z O:List Cb}(hp:p<n)(fr:∀i,i<p->Free n f i)(n1:¬∀b,b<2^n->f b=true)(he:T7 n (p+1) (both f p) E)(hz:T7 n (p+1) (side f p false) Z)(ho:T7 n (p+1) (side f p true) O) :
  T7 n p f (E.map (none::·)++(Z.filter fun q=>!E.contains q).map (some false::·)++(O.filter fun q=>!E.contains q).map (some true::·)):=by
 have ed:n-p=n-(p+1)+1:=by omega
 have inE:∀q:Cb,q.length=n-(p+1)->(!E.contains q)=!yj n (both f p) (ext (p+1) q):=fun q l=>by
  congr 1
  rw[zt8,List.contains_iff_mem,he.mem]
  exact⟨fun h=>h.2,fun h=>⟨l,h⟩⟩
 have LEN:E.length+(Z.filter fun q=>!E.contains q).length+(O.filter fun q=>!E.contains q).length<=3^(n-p-1):=by
  have l1:=zt1 (fun q=>!E.contains q) Z
  have l2:=zt1 (fun q=>!E.contains q) O
  rcases Nat.eq_or_lt_of_le (show 1<=n-p by omega) with z | z
  ·
   have e0:n-p-1=0:=by omega
   rw[e0]
   have ep:p+1=n:=by omega
   have cz:=YD (n:=n) (f:=side f p false) fun i hi=>Qp hp fr i (by omega)
   have co:=YD (n:=n) (f:=side f p true) fun i hi=>Qp hp fr i (by omega)
   have le:=he.len
   have lz:=hz.len
   have lo:=ho.len
   have e1:n-(p+1)-1=0:=by omega
   rw[e1] at le lz lo
   have zlZ:side f p false 0=false\/side f p true 0=false:=by
    rcases h0:side f p false 0 with _ | _
    ·exact .inl rfl
    ·rcases h1:side f p true 0 with _ | _
     ·exact .inr rfl
     ·exfalso
      refine n1 fun b hb=>?_
      have e:=yD b p
      have a1:=cz b hb
      have a2:=co b hb
      rw[h0] at a1
      rw[h1] at a2
      cases e':b.testBit p with
      | false=>rw[e'] at e;rw[<-e];exact a1
      | true=>rw[e'] at e;rw[<-e];exact a2
   have eE:E=[]:=he.nil (by omega) fun b hb=>by
    show(side f p false b&&side f p true b)=false
    rw[cz b hb,co b hb]
    rcases zlZ with z | z<;>rw[z]<;>simp
   have e3:E.length=0:=by rw[eE];rfl
   rw[Nat.pow_zero] at le lz lo ⊢
   rcases zlZ with z | z
   ·have:Z.length=0:=by rw[hz.nil (by omega) fun b hb=>by rw[cz b hb,z]];rfl
    omega
   ·have:O.length=0:=by rw[ho.nil (by omega) fun b hb=>by rw[co b hb,z]];rfl
    omega
  ·have e:n-p-1=n-(p+1)-1+1:=by omega
   rw[e,Nat.pow_succ]
   have:=he.len
   have:=hz.len
   have:=ho.len
   omega
 refine⟨fun q=>?_,?_,?_,?_⟩
 ·rw[List.mem_append,List.mem_append,List.mem_map,List.mem_map,List.mem_map]
  constructor
  ·rintro ((⟨r,hr,rfl⟩ | ⟨r,hr,rfl⟩) | ⟨r,hr,rfl⟩)
   ·obtain⟨l,e⟩:=(he.mem r).mp hr
    exact⟨by rw[ztE,l,ed],by rw[zaP hp];exact e⟩
   ·obtain⟨h1,h2⟩:=List.mem_filter.mp hr
    obtain⟨l,e⟩:=(hz.mem r).mp h1
    rw[inE r l] at h2
    exact⟨by rw[ztE,l,ed],by rw[PK hp,e,h2];rfl⟩
   ·obtain⟨h1,h2⟩:=List.mem_filter.mp hr
    obtain⟨l,e⟩:=(ho.mem r).mp h1
    rw[inE r l] at h2
    exact⟨by rw[ztE,l,ed],by rw[PK hp,e,h2];rfl⟩
  ·rintro⟨l,e⟩
   cases q with
   | nil=>rw[ed] at l;cases l
   | cons s r =>
    have lr:r.length=n-(p+1):=by rw[ztE,ed] at l;omega
    cases s with
    | none=>rw[zaP hp] at e;exact .inl (.inl ⟨r,(he.mem r).mpr ⟨lr,e⟩,rfl⟩)
    | some v =>
     rw[PK hp,ztU] at e
     cases v with
     | false=>exact .inl (.inr ⟨r,List.mem_filter.mpr ⟨(hz.mem r).mpr ⟨lr,e.1⟩,by rw[inE r lr];exact e.2⟩,rfl⟩)
     | true=>exact .inr ⟨r,List.mem_filter.mpr ⟨(ho.mem r).mpr ⟨lr,e.1⟩,by rw[inE r lr];exact e.2⟩,rfl⟩
 ·have one:∀{L:List Cb} (s:Option Bool),L.Pairwise ltC->(L.map (s::·)).Pairwise ltC:=fun {L} s h=>List.pairwise_map.mpr (h.imp fun h=>.inr ⟨rfl,h⟩)
  have two:∀{L M:List Cb} {s t:Option Bool},T6 s<T6 t->∀x∈L.map (s::·),∀y∈M.map (t::·),ltC x y:=fun {L M s t} h x hx y hy=>by
   obtain⟨a,_,rfl⟩:=List.mem_map.mp hx
   obtain⟨c,_,rfl⟩:=List.mem_map.mp hy
   exact .inl h
  refine List.pairwise_append.mpr ⟨List.pairwise_append.mpr ⟨one _ he.up,one _ (hz.up.filter _),two (by decide)⟩,one _ (ho.up.filter _),fun x hx y hy=>?_⟩
  rcases List.mem_append.mp hx with z | z
  ·exact two (by decide) x z y hy
  ·exact two (by decide) x z y hy
 ·rw[ztA,ztA,zts,zts,zts]
  exact LEN
 ·rw[ztA,ztA,zts,zts,zts]
  have l1:=zt1 (fun q=>!E.contains q) Z
  have l2:=zt1 (fun q=>!E.contains q) O
  match hd:n-p,(show 1<=n-p by omega) with
  | 1,_ =>
   have z:n-p-1=0:=by omega
   rw[z] at LEN
   exact LEN
  | 2,_=>exact zjN (by omega) he hz ho
  | d+3,_ =>
   have e:n-(p+1)=d+2:=by omega
   have a1:=he.fw
   have a2:=hz.fw
   have a3:=ho.fw
   rw[e] at a1 a2 a3
   show _<=3*bnd (d+2)
   omega
end yU
namespace L2
open PySem PySem.Spec PyProof.Rows
section
variable {K:Frag}{σ:St}{js:List Nat}{tt:TT}{te:TE}{H:Hp}{Qf:Addr->Hp->List V->Prop}
theorem zaQ {a:Addr}{α:Type}(c:α->V){ps:List α}(p:α->Bool)(hq:zP K H a (ps.map c))(hz:ps.length<=sizeLine)(hte:∀x H' Q,Q x H'->te (Zj σ js (some x)) H' Q)
  (hs:∀(x:α) H' (Q:Bool->Hp->Prop),x∈ps->Same H H'->(∀H2,Same H H2->Q (p x) H2)->tt (Zj σ js (some (c x))) H' Q)
  (hd:∀H' l,Same H H'->H' l=none->Qf l H' ((ps.filter p).map c)) :
  ∃W:Nat->Nat->List V->Hp->Prop,(∃m,W 0 m [] H)/\∀i m ys H,W i m ys H ->
   ((KZ K a).stop i H/\∀p,H p=none->Qf p H ys) \/
   ((KZ K a).go i H/\ys.length<sizeLine/\∀x H',(KZ K a).R7 i H x H'->tt (Zj σ js (some x)) H' fun b H2 =>
    if b=true then te (Zj σ js (some x)) H2 fun v H3=>∃m',m'<m/\W (i+1) m' (ys++[v]) H3 else ∃m',m'<m/\W (i+1) m' ys H2):=by
 have ln:(ps.map c).length=ps.length:=zts _
 refine⟨fun i m ys H'=>m=ps.length-i/\i<=ps.length/\Same H H'/\ys=((ps.take i).filter p).map c,⟨_,by rw[Nat.sub_zero],ztP _,Same.refl _,rfl⟩,?_⟩
 rintro i m ys H1 ⟨rfl,hi,g,rfl⟩
 have hy:(((ps.take i).filter p).map c).length<=i:=by
  have:=zt1 p (ps.take i)
  rw[ztQ] at this
  rw[zts]
  omega
 by_cases hlt:i<ps.length
 ·have hb:ps[i]?=some ps[i]:=ztt hlt
  generalize ps[i]=b at hb
  have hv:(ps.map c)[i]?=some (c b):=by rw[ztu,hb];rfl
  refine .inr ⟨⟨_,_,g.seq hq,hv⟩,by omega,fun x H' y=>?_⟩
  obtain⟨e,y⟩:=y
  subst e
  have ex:=y _ (g.seq hq)
  rw[hv] at ex
  cases ex
  refine hs b _ _ (ztx hb) g fun H2 g2=>?_
  cases e:p b with
  | true =>
   rw[if_pos rfl]
   refine hte _ _ _ ⟨_,Nat.sub_lt_sub_left hlt (Nat.lt_succ_self i),rfl,hlt,g2,?_⟩
   rw[zY hb,zt6,List.filter_cons_of_pos e,ztG]
   rfl
  | false =>
   rw[if_neg ztw]
   refine⟨_,Nat.sub_lt_sub_left hlt (Nat.lt_succ_self i),rfl,hlt,g2,?_⟩
   rw[zY hb,zt6,List.filter_cons_of_neg (by rw[e];exact ztw),List.filter_nil,List.append_nil]
 ·have e:i=ps.length:=by omega
  subst e
  refine .inl ⟨⟨_,g.seq hq,by rw[ln];exact ztI _⟩,fun l hl=>?_⟩
  rw[ztV]
  exact hd _ l g hl
theorem Qu {a:Addr}{α:Type}(c e:α->V){ps:List α}(hq:zP K H a (ps.map c))(hz:ps.length<=sizeLine)
  (hs:∀(x:α) H' (Q:V->Hp->Prop),x∈ps->Same H H'->(∀H3,Same H' H3->Q (e x) H3)->te (Zj σ js (some (c x))) H' Q)
  (hd:∀H' p,Same H H'->H' p=none->Qf p H' (ps.map e)) :
  ∃W:Nat->Nat->List V->Hp->Prop,(∃m,W 0 m [] H)/\∀i m ys H,W i m ys H ->
   ((KZ K a).stop i H/\∀p,H p=none->Qf p H ys) \/
   ((KZ K a).go i H/\ys.length<sizeLine/\∀x H',(KZ K a).R7 i H x H'->Sw (Zj σ js (some x)) H' fun b H2 =>
    if b=true then te (Zj σ js (some x)) H2 fun v H3=>∃m',m'<m/\W (i+1) m' (ys++[v]) H3 else ∃m',m'<m/\W (i+1) m' ys H2):=by
 refine Rf (xs:=ps.map c) (fun i ys H'=>Same H H'/\ys=(ps.take i).map e) ⟨Same.refl _,rfl⟩ (by rw[zts];exact hz) ?_ ?_ ?_
 ·rintro i ys H' hi ⟨g,rfl⟩
  exact⟨g.seq hq,by rw[zts,ztQ];omega⟩
 ·rintro i x ys H' Q hx ⟨g,rfl⟩ h
  rw[ztu] at hx
  cases e1:ps[i]? with
  | none=>rw[e1] at hx;cases hx
  | some y =>
   rw[e1] at hx
   cases hx
   refine hs y H' Q (ztx e1) g fun H3 g3=>h _ _ ⟨g.trans g3,?_⟩
   rw[zY e1,ztG]
   rfl
 ·rintro ys H' p ⟨g,rfl⟩ hp
  rw[zts,ztV]
  exact hd H' p g hp
end
end L2
namespace yU
open PySem L2 yF
abbrev cbV (q:Cb):V:=.str (cbS q)
inductive V8 (d:Nat)(vs:List V)(H:Hp)(Q:VK)(E9:XK):Prop
 | mk (N p n:Nat) (f:Nat->Bool) (_:vs=[.int (N:Nat),.int (p:Nat),.int (n:Nat)]) (_:n<=8) (_:p<=n) (_:n+1<=p+d) (_:zV n N f) (_:∀i,i<p->Free n f i) (_:∀(l:Addr) (qs:List Cb) (H':Hp),Same H H'->H l=none->H' l=some (.lst (qs.map cbV))->T7 n p f qs->Q (.ref l) H'):V8 d vs H Q E9
inductive zaR (C:Addr)(vs:List V)(H:Hp)(Q:VK)(E9:XK):Prop
 | mk (b:Addr) (os:List Str) (rs:List Rm) (F:ZK) (k:Nat) (_:vs=[.ref b,.int (k:Nat)]) (_:yP C H b os rs F) (_:k<rs.length) (_:∀(l:Addr) (qs:List Cb) (H':Hp),Same H H'->H l=none->H' l=some (.lst (qs.map cbV))->T7 os.length 0 (tB rs k) qs->Q (.ref l) H'):zaR C vs H Q E9
theorem zjO {E:List Cb}{q:Cb}:inV (cbV q) (E.map cbV)=E.contains q:=by
 have e:E.map cbV=(E.map cbS).map V.str:=by rw[zt4];rfl
 rw[e,zhd,zt8,List.contains_iff_mem,List.contains_iff_mem,List.mem_map]
 exact⟨fun⟨r,h,e⟩=>by rw[<-Mt e];exact h,fun h=>⟨q,h,rfl⟩⟩
theorem zho (E:List Cb):(E.map cbV).all xX=true:=by
 rw[List.all_map,ztW]
 exact fun _ _=>rfl
theorem T7.few {n p:Nat}{f:Nat->Bool}{qs:List Cb}(h:T7 n p f qs)(n8:n<=8):qs.length<=2187:=by
 have a:=h.len
 have p3:3^(n-p-1)<=3^7:=ztY (by decide) (by omega)
 have e:3^7=2187:=rfl
 omega
theorem wY {n:Nat}(h:n<=10000):n<=sizeLine:=ztO h (by decide)
theorem zjP {n i:Nat}{f g:Nat->Bool}(h:Free n f i)(k:Free n g i):Free n (fun b=>f b&&g b) i:=fun b hb v=>by
 show(f (zM b i v)&&g (zM b i v))=(f b&&g b)
 rw[h b hb v,k b hb v]
theorem zdu (s:Option Bool)(q:Cb){y:Str}(e:y=cbS [s]):V.str (y++cbS q)=cbV (s::q):=by rw[e,Mu];rfl
theorem nought:Str.ofString "0"=cbS [some false]:=by decide +kernel
theorem zpS:Str.ofString "1"=cbS [some true]:=by decide +kernel
end yU
namespace yU
open PySem L2 yF PyProof.Rows
theorem zjQ:∀{a b c:List Nat},Spec.ltCps b a=false->Spec.ltCps c b=false->Spec.ltCps c a=false
 | [],b,c,h1,h2=>by cases c<;>rfl
 | x::a,[],c,h1,h2=>by cases h1
 | x::a,y::b,[],h1,h2=>by cases h2
 | x::a,y::b,z::c,h1,h2=>by
  have h1:(decide (y<x)||(y==x&&Spec.ltCps b a))=false:=h1
  have h2:(decide (z<y)||(z==y&&Spec.ltCps c b))=false:=h2
  show(decide (z<x)||(z==x&&Spec.ltCps c a))=false
  rw[Bool.or_eq_false_iff] at h1 h2 ⊢
  have a1:=of_decide_eq_false h1.1
  have a2:=of_decide_eq_false h2.1
  refine⟨decide_eq_false (by omega),?_⟩
  by_cases e:z=x
  ·have e1:y=x:=by omega
   subst e e1
   simp only[beq_self_eq_true,Bool.true_and] at h1 h2 ⊢
   exact zjQ h1.2 h2.2
  ·rw[Bool.and_eq_false_iff]
   left
   simpa using e
theorem zct:∀{l:List Str} {p:Str},risingS p l=true->∀x∈l,Spec.ltCps x.cps.toList p.cps.toList=false
 | [],p,_,x,hx=>by cases hx
 | y::l,p,h,x,hx=>by
  have h':(!Spec.ltCps y.cps.toList p.cps.toList&&risingS y l)=true:=h
  rw[ztU,Bool.not_eq_true'] at h'
  rcases List.mem_cons.mp hx with e | hx
  ·rw[e];exact h'.1
  ·exact zjQ h'.1 (zct h'.2 x hx)
theorem zhp:∀{a b:Cb},ltC a b->Spec.ltCps (cbS a).cps.toList (cbS b).cps.toList=true
 | a::x,b::y,h=>by
  show(decide (T6 a<T6 b)||(T6 a==T6 b&&Spec.ltCps (cbS x).cps.toList (cbS y).cps.toList))=true
  rcases h with h | ⟨e,h⟩
  ·rw[decide_eq_true h];rfl
  ·rw[e,zhp h];simp
theorem zcu:∀{qs:List Cb} {ms:List Str},ms.Perm (qs.map cbS)->sortedS ms=true->qs.Pairwise ltC->ms=qs.map cbS
 | [],ms,h,_,_=>List.perm_nil.mp h
 | q::qs,[],h,_,_=>by cases (List.nil_perm.mp h)
 | q::qs,x::ms,h,s,u=>by
  obtain⟨u1,u2⟩:=List.pairwise_cons.mp u
  have hx:=h.mem_iff.mp ztM
  have e:x=cbS q:=by
   rcases List.mem_cons.mp hx with e | hx
   ·exact e
   ·obtain⟨r,hr,rfl⟩:=List.mem_map.mp hx
    have lt:=zhp (u1 r hr)
    have hq:=h.mem_iff.mpr ztM
    rcases List.mem_cons.mp hq with e | hq
    ·exact e.symm
    ·rw[zct s _ hq] at lt
     cases lt
  subst e
  rw[ztR,zcu h.cons_inv (zez s) u2]
theorem zjR:∀{a b:Cb},ltC a b->¬ltC b a
 | a::x,b::y,h,k=>by
  rcases h with h | ⟨e,h⟩
  ·rcases k with k | ⟨e,k⟩
   ·omega
   ·subst e;omega
  ·subst e
   rcases k with k | ⟨_,k⟩
   ·omega
   ·exact zjR h k
theorem up_eq:∀{a b:List Cb},a.Pairwise ltC->b.Pairwise ltC->(∀q,q∈a↔q∈b)->a=b
 | [],[],_,_,_=>rfl
 | [],y::b,_,_,h=>absurd ((h y).mpr ztM) (by simp)
 | x::a,[],_,_,h=>absurd ((h x).mp ztM) (by simp)
 | x::a,y::b,ha,hb,h=>by
  obtain⟨a1,a2⟩:=List.pairwise_cons.mp ha
  obtain⟨b1,b2⟩:=List.pairwise_cons.mp hb
  have e:x=y:=by
   rcases List.mem_cons.mp ((h x).mp ztM) with e | hx
   ·exact e
   ·rcases List.mem_cons.mp ((h y).mpr ztM) with e | hy
    ·exact e.symm
    ·exact absurd (a1 y hy) (zjR (b1 x hx))
  subst e
  rw[up_eq a2 b2 fun q=>?_]
  constructor
  ·intro hq
   rcases List.mem_cons.mp ((h q).mp (ztD _ hq)) with e | z
   ·exact absurd (a1 q hq) (by rw[e];exact fun z=>PL z rfl)
   ·exact z
  ·intro hq
   rcases List.mem_cons.mp ((h q).mpr (ztD _ hq)) with e | z
   ·exact absurd (b1 q hq) (by rw[e];exact fun z=>PL z rfl)
   ·exact z
theorem T7.uniq {n p:Nat}{f:Nat->Bool}{a b:List Cb}(h:T7 n p f a)(k:T7 n p f b):a=b:=up_eq h.up k.up fun q=>by rw[h.mem,k.mem]
end yU
namespace L2
open PySem PySem.Spec PyProof.Rows
section
variable {X:Cx}
def zn9:V->List V->Hp->VK->Prop:=fun x vs H Q=>∃d kvs k v,x=.ref d/\vs=[kV k]/\H d=some (.dK kvs)/\Zx kvs k=some v/\Q v (upd H d (.dK (Jb kvs k)))
theorem zlj:MtM X "dict.pop" zn9:=by
 intro pins s σ H x vs v us Q I rx rv h
 obtain⟨d,kvs,k,y,rfl,rfl,hH,hv,q⟩:=h
 cases rx
 obtain⟨u,rfl,ru⟩:=rv.one
 exact znU I hH ru hv (.inl rfl) fun w' s' I' r'=>⟨y,_,I',r',q⟩
end
def Itw (d:Addr)(o:Obj)(kvs:List (Key×V)):It :=
 ⟨fun i H=>H d=some (.KY o (.dK kvs))/\i<kvs.length,fun i H x H'=>H'=H/\∃p,kvs[i]?=some p/\x=p.2,fun i H=>H d=some (.KY o (.dK kvs))/\kvs.length<=i⟩
theorem zh4 {P:Program}{w:World}{K:Frag}{tg:Expr}{h0:Heap}{d:Addr}{o:Obj}{vs0:List (Key×Value)}{kvs:List (Key×V)}{ep:Nat}(ho:h0.get? d=some o)(at0:h0.DictAt (yd P w) d vs0 ep)(it:Addr):Turn P w K tg (Itw d o kvs) [it] it (fun i h=>h.IsValIter it d i kvs.length ep) where
 mem:=by simp
 obj:=fun i h st b hb=>by
  have e:b=it:=by simpa using hb
  subst e
  obtain⟨o,e,c,d⟩:=st
  exact⟨o,e,fun v z=>by rw[d] at z;cases z⟩
 keep:=fun i h h' st k=>by
  obtain⟨o,e,c,d⟩:=st
  exact⟨o,k it (by simp) o e,c,d⟩
 item:=by
  intro X hP hw hK hc i pins s σ H E I hf st hg
  subst hP hw hK
  obtain⟨hd,hi⟩:=hg
  obtain⟨ho1,hz,lo,vs,rv,hD⟩:=(show s.heap.get? d=some o/\kvs.length<=sizeLine/\(d==sysModules)=false/\∃vs,KV kvs vs/\s.heap.DictOf (yd X.prog X.w) d vs from I.hok d _ hd)
  obtain⟨ep',hat⟩:=hD.dictAt
  obtain rfl:=zhg ho ho1 at0 hat
  have hl:kvs.length=vs.length:=Paired.length rv
  obtain⟨f0,f1,f2,f3,f4,f5⟩:=hf it (by simp)
  obtain⟨q,hq,rq⟩:=Xr rv (ztt hi)
  rw[hl] at st
  refine wpAny_pyNext_values_item st hat (k:=q.1) (v:=q.2) hq fun h' st' sb=>?_
  rw[<-hl] at st'
  have I1:Inv X pins σ H { s with heap:=h' }:=I.turned (t':=s.toks) (fun b o hb e=>(sb.2 b hb).trans e) f0 f1 f3 f4 f5
  obtain⟨o,e,c,d⟩:=id st'
  exact⟨q.2,rfl,zd8 (s:={ s with heap:=h' }) e c d (by decide) ⟨(kvs[i]).2,H,I1,rq.2,⟨rfl,kvs[i],ztt hi,rfl⟩,st',fun b hb=>(hf b hb).1⟩⟩
 done:=by
  intro X hP hw hK hc i pins s σ H E I hf st hg
  subst hP hw hK
  obtain⟨hd,hi⟩:=hg
  obtain⟨ho1,hz,lo,vs,rv,hD⟩:=(show s.heap.get? d=some o/\kvs.length<=sizeLine/\(d==sysModules)=false/\∃vs,KV kvs vs/\s.heap.DictOf (yd X.prog X.w) d vs from I.hok d _ hd)
  obtain⟨ep',hat⟩:=hD.dictAt
  obtain rfl:=zhg ho ho1 at0 hat
  have hl:kvs.length=vs.length:=Paired.length rv
  obtain⟨f0,f1,f2,f3,f4,f5⟩:=hf it (by simp)
  rw[hl] at st
  exact wpAny_pyNext_values_end (I.ok.hd hc) st hat (zt2 (by omega)) fun h' eb=>⟨rfl,I.turned (t':=s.toks) (fun b o hb e=>eb b o hb e) f0 f1 f3 f4 f5⟩
 self:=fun _ _ _ _ _ st h=>wpAny_pyIter_valiter st h
section
variable {X:Cx}{tg:Expr}
def zob (tl:TE):TI:=fun σ H R=>tl σ H fun x H1=>∃d kvs,x=.ref d/\H1 d=some (.dK kvs)/\∀o,R (Itw d o kvs) (upd H1 d (.KY o (.dK kvs)))
theorem zlk {o:Expr}{tl:TE}{apos cpos:Pos}(ho:PE X o tl)
  (hbase:attributeBase o "values" X.env (eval o X.env)=eval o X.env:=by rfl)(hline:(apos.endLine==cpos.line)=true:=by rfl):PI X tg (.Call (.Attribute o "values" apos) [] [] cpos) (zob tl):=by
 intro pins s σ H R I h
 refine wpAny_Call_method0_late hbase hline (wM (ho pins s σ H _ I h) fun v s1 ⟨x,H1,I1,r1,q1⟩=>?_)
 obtain⟨d,kvs,rfl,hd,q⟩:=q1
 obtain⟨h1,h2⟩:=zfI (T := "dict") I1 r1 (.inr (.inr (.inl ⟨rfl,.inl ⟨kvs,hd⟩⟩)))
 cases r1
 obtain⟨hz,lo,vs,rv,hD⟩:=(show kvs.length<=sizeLine/\(d==sysModules)=false/\∃vs,KV kvs vs/\s1.heap.DictOf (yd X.prog X.w) d vs from I1.hok d _ hd)
 obtain⟨ep,hat⟩:=hD.dictAt
 obtain⟨o,es,ho,rest⟩:=id hat
 have hl:kvs.length=vs.length:=Paired.length rv
 refine⟨"dict", "dict.values", PySem.F.plainAttrs_dict,PySem.F.slot_dict_values,PySem.F.type_dict_values,h1,h2,Calls.callWith_builtin rfl (PySem.evalArgs_none ?_)⟩
 refine call_meetsIn PySem.F.slot_dict_values hD.typeIs PySem.F.entry_dict_values (PySem.F.args_dict_values_1 _) (meets_dict_values (yd X.prog X.w) d lo) ⟨⟨vs,hD⟩,?_⟩
 have I2:=(I1.held hd ho).kept (t':=s1.toks) (h':=s1.heap.push { cls:=.type "dict_values", data:=.fields #[.ref d] }) fun b o e=>zty _ e
 have ho2:(s1.heap.push { cls:=.type "dict_values", data:=.fields #[.ref d] }).get? d=some o:=zty _ ho
 have zjx:(s1.heap.push { cls:=.type "dict_values", data:=.fields #[.ref d] }).DictAt (yd X.prog X.w) d vs ep:=⟨o,es,ho2,rest⟩
 refine wpAny_pyIter_values (s:={ s1 with heap:=s1.heap.push { cls:=.type "dict_values", data:=.fields #[.ref d] } }) ⟨_,ztN _ rfl,rfl,rfl⟩ zjx ?_
 rw[<-hl]
 generalize s1.heap.push { cls:=.type "dict_values", data:=.fields #[.ref d] }=h2' at I2 ho2 zjx ⊢
 refine⟨h2'.objs.size,[h2'.objs.size],_,_,_,rfl,I2.kept (t':=s1.toks) fun b o e=>zty _ e,zh4 ho2 zjx _,⟨_,ztN _ rfl,rfl,rfl⟩,fun b hb=>?_,q o⟩
 have e:b=h2'.objs.size:=by simpa using hb
 subst e
 exact I2.zd7 (ztI _) (I2.hok.fresh (ztI _))
end
theorem zll {d:Addr}{o:Obj}{kvs:List (Key×V)}{σ:St}{js:List Nat}{te:TE}{H:Hp}{Qf:Addr->Hp->List V->Prop}(Pv:Nat->List V->Hp->Prop)(h0:Pv 0 [] H)(hz:kvs.length<=sizeLine)
  (hl:∀i ys H,i<=kvs.length->Pv i ys H->H d=some (.KY o (.dK kvs))/\ys.length<=i)
  (hs:∀i p ys H (Q:V->Hp->Prop),kvs[i]?=some p->Pv i ys H->(∀v H3,Pv (i+1) (ys++[v]) H3->Q v H3)->te (Zj σ js (some p.2)) H Q)
  (hd:∀ys H p,Pv kvs.length ys H->H p=none->Qf p H ys) :
  ∃W:Nat->Nat->List V->Hp->Prop,(∃m,W 0 m [] H)/\∀i m ys H,W i m ys H ->
   ((Itw d o kvs).stop i H/\∀p,H p=none->Qf p H ys) \/
   ((Itw d o kvs).go i H/\ys.length<sizeLine/\∀x H',(Itw d o kvs).R7 i H x H'->Sw (Zj σ js (some x)) H' fun b H2 =>
    if b=true then te (Zj σ js (some x)) H2 fun v H3=>∃m',m'<m/\W (i+1) m' (ys++[v]) H3 else ∃m',m'<m/\W (i+1) m' ys H2):=by
 refine⟨fun i m ys H=>m=kvs.length-i/\i<=kvs.length/\Pv i ys H,⟨kvs.length,by simp,ztP _,h0⟩,?_⟩
 rintro i m ys H ⟨rfl,hi,p⟩
 obtain⟨q,hy⟩:=hl i ys H hi p
 by_cases hlt:i<kvs.length
 ·refine .inr ⟨⟨q,hlt⟩,by omega,fun x H' y=>?_⟩
  obtain⟨e,pp,e2,rfl⟩:=y
  subst e
  dsimp only[Sw]
  rw[if_pos rfl]
  exact hs i pp ys _ _ e2 p fun v H3 h3=>⟨_,by omega,rfl,hlt,h3⟩
 ·have e:i=kvs.length:=by omega
  subst e
  exact .inl ⟨⟨q,ztI _⟩,fun pp hp=>hd ys H pp p hp⟩
end L2
namespace yU
open PySem L2 yF
def QK (fs:List (Nat->Bool))(b:Nat):Nat:=(fs.filter fun f=>f b).length
theorem zcv (fs:List (Nat->Bool))(f:Nat->Bool)(b:Nat):QK (fs++[f]) b=QK fs b+(f b).toNat:=by
 unfold QK
 rw[zt6,ztA]
 cases h:f b<;>simp[h]
inductive zad (K:Frag)(vs:List V)(H:Hp)(Q:VK)(E9:XK):Prop
 | mk (l:Addr) (n:Nat) (Ns:List Nat) (fs:List (Nat->Bool)) (_:vs=[.ref l]) (_:zP K H l (Ns.map fun N=>V.int (N:Nat))) (_:Paired (zV n) Ns fs) (_:∀(R:Nat),zV n R (fun b=>decide (QK fs b=1))->Q (.int (R:Nat)) H):zad K vs H Q E9
def sgn (q:Cb):Nat:=(q.filter Option.isSome).length
theorem zdv:∀{q:Cb} {i:Nat} {v:Bool},q[i]?=some (some v)->sgn (q.set i none)+1=sgn q
 | [],i,v,h=>by cases h
 | s::q,0,v,h=>by
  cases h
  rfl
 | s::q,i+1,v,h=>by
  have ih:=zdv (q:=q) (i:=i) (v:=v) h
  show sgn (s::q.set i none)+1=sgn (s::q)
  unfold sgn at ih ⊢
  rw[List.filter_cons,List.filter_cons]
  cases s with
  | none=>exact ih
  | some u=>show _+1+1=_+1;rw[ih]
theorem zjS {q:Cb}{i b:Nat}(h:yR q b=true):yR (q.set i none) b=true:=by
 rw[Zb] at h ⊢
 intro j v e
 rw[List.getElem?_set] at e
 split at e
 ·split at e<;>cases e
 ·exact h j v e
theorem zjT {n:Nat}{f:Nat->Bool}{b:Nat}:∀(m:Nat) (q:Cb),sgn q<=m->q.length=n->inB n f q=true->yR q b=true->∃r,r.length=n/\yj n f r=true/\yR r b=true:=by
 intro m
 induction m with
 | zero =>
  intro q hs hl hi hb
  refine⟨q,hl,(yw (p:=0)).mpr ⟨hi,fun i v e=>?_⟩,hb⟩
  have:=zdv e
  omega
 | succ m ih =>
  intro q hs hl hi hb
  by_cases h:∀i v,q[i]?=some (some v)->inB n f (q.set i none)=false
  ·exact⟨q,hl,(yw (p:=0)).mpr ⟨hi,h⟩,hb⟩
  ·obtain⟨i,h⟩:=Classical.not_forall.mp h
   obtain⟨v,h⟩:=Classical.not_forall.mp h
   obtain⟨e,h⟩:=Classical.not_imp.mp h
   have:=zdv e
   exact ih (q.set i none) (by omega) (by rw[List.length_set];exact hl) (by simpa using h) (zjS hb)
def zh5 (n b:Nat):Cb:=(List.range n).map fun i=>some (b.testBit i)
theorem zlm {n b i:Nat}{v:Bool}(h:(zh5 n b)[i]?=some (some v)):i<n/\v=b.testBit i:=by
 unfold zh5 at h
 rw[ztu] at h
 rcases Nat.lt_or_ge i n with z | z
 ·rw[List.getElem?_range z] at h
  cases h
  exact⟨z,rfl⟩
 ·rw[zt2 (by rw[ztK];exact z)] at h
  cases h
theorem zh6 {n:Nat}{f:Nat->Bool}{b:Nat}(hb:b<2^n)(h:f b=true):∃r,r.length=n/\yj n f r=true/\yR r b=true:=by
 refine zjT (sgn (zh5 n b)) (zh5 n b) (ztI _) (by unfold zh5;rw[zts,ztK]) ?_ ?_
 ·rw[uf]
  intro c hc e
  rw[Zb] at e
  have:c=b:=ZL hc hb fun i hi=>e i (b.testBit i) (by unfold zh5;rw[ztu,List.getElem?_range hi];rfl)
  rw[this];exact h
 ·rw[Zb]
  intro i v e
  exact(zlm e).2.symm
theorem T7.cov {n:Nat}{f:Nat->Bool}{qs:List Cb}(h:T7 n 0 f qs){b:Nat}(hb:b<2^n):(∃c∈qs,yR c b=true)↔f b=true:=by
 constructor
 ·rintro⟨c,hc,e⟩
  obtain⟨_,p⟩:=(h.mem c).mp hc
  exact uf.mp (yw.mp p).1 b hb e
 ·intro e
  obtain⟨r,l,p,c⟩:=zh6 hb e
  exact⟨r,(h.mem r).mpr ⟨l,p⟩,c⟩
def Own (ks:List Cb)(c:Cb)(b:Nat):Prop:=yR c b=true/\∀d∈ks,d≠c->yR d b=false
theorem own_one:∀{ks:List Cb} {c:Cb} {b:Nat},ks.Nodup->c∈ks->yR c b=true->(QK (ks.map yR) b=1↔Own ks c b):=by
 intro ks c b nd hc hb
 have e:QK (ks.map yR) b=(ks.filter fun d=>yR d b).length:=by
  unfold QK
  rw[List.filter_map,zts]
  rfl
 rw[e]
 have mc:c∈ks.filter fun d=>yR d b:=List.mem_filter.mpr ⟨hc,hb⟩
 constructor
 ·intro h
  obtain⟨x,hx⟩:=List.length_eq_one_iff.mp h
  refine⟨hb,fun d hd ne=>?_⟩
  cases e2:yR d b with
  | false=>rfl
  | true =>
   exfalso
   have md:d∈ks.filter fun d=>yR d b:=List.mem_filter.mpr ⟨hd,e2⟩
   rw[hx,List.mem_singleton] at md mc
   exact ne (md.trans mc.symm)
 ·rintro⟨_,h⟩
  have nl:(ks.filter fun d=>yR d b).Nodup:=nd.filter _
  have al:∀d∈ks.filter (fun d=>yR d b),d=c:=fun d hd=>by
   obtain⟨h1,h2⟩:=List.mem_filter.mp hd
   by_cases z:d=c
   ·exact z
   ·rw[h d h1 z] at h2;cases h2
  generalize ks.filter (fun d=>yR d b)=L at mc nl al
  match L,mc,nl,al with
  | [x],_,_,_=>rfl
  | x::y::L,_,nl,al =>
   exfalso
   have e1:=al x ztM
   have e2:=al y (ztD _ ztM)
   exact(List.nodup_cons.mp nl).1 (by rw[e1,<-e2];exact ztM)
theorem zdw (n:Nat)(f:Nat->Bool):∃N,zV n N f:=by
 have:∀m,∃N:Nat,∀b,N.testBit b=(decide (b<m)&&f b):=by
  intro m
  induction m with
  | zero=>exact⟨0,fun b=>by simp⟩
  | succ m ih =>
   obtain⟨N,h⟩:=ih
   refine⟨N|||(if f m then 2^m else 0),fun b=>?_⟩
   rw[Nat.testBit_or,h b]
   by_cases e:b=m
   ·subst e
    cases hf:f b with
    | false=>simp
    | true=>simp[Nat.testBit_two_pow_self]
   ·have e1:decide (b<m+1)=decide (b<m):=decide_eq_decide.mpr (by omega)
    rw[e1]
    have e2:(if f m=true then 2^m else 0).testBit b=false:=by
     split
     ·rw[Nat.testBit_two_pow];exact decide_eq_false (Ne.symm e)
     ·exact Nat.zero_testBit _
    rw[e2,Bool.or_false]
 exact this (2^n)
structure Cov (n:Nat)(f:Nat->Bool)(ks:List Cb)(rows:List (List Bool)):Prop where
 mem:∀c∈ks,c.length=n/\yj n f c=true
 up:ks.Pairwise ltC
 cov:∀b,b<2^n->((∃c∈ks,yR c b=true)↔f b=true)
 len:rows.length=ks.length
 own:∀(i:Nat) c r,ks[i]?=some c->rows[i]?=some r->r.length=n/\Own ks c (zu r)
structure Whi (n:Nat)(f:Nat->Bool)(qs:List Cb)(i:Nat)(ks:List Cb):Prop where
 dn:∃dn,ks=dn++qs.drop i/\dn.Sublist (qs.take i)/\∀c∈dn,∃b,b<2^n/\Own ks c b
 cov:∀b,b<2^n->((∃c∈ks,yR c b=true)↔f b=true)
theorem Whi.start {n:Nat}{f:Nat->Bool}{qs:List Cb}(P:T7 n 0 f qs):Whi n f qs 0 qs :=
 ⟨⟨[],rfl,List.Sublist.refl _,fun c h=>by cases h⟩,fun b hb=>P.cov hb⟩
theorem Own.less {ks ls:List Cb}{c:Cb}{b:Nat}(h:Own ks c b)(s:∀d∈ls,d∈ks):Own ls c b:=⟨h.1,fun d hd=>h.2 d (s d hd)⟩
theorem Whi.sub {n:Nat}{f:Nat->Bool}{qs ks:List Cb}{i:Nat}(h:Whi n f qs i ks):ks.Sublist qs:=by
 obtain⟨dn,e,s,_⟩:=h.dn
 rw[e]
 have:=s.append (List.Sublist.refl (qs.drop i))
 rwa [List.take_append_drop] at this
theorem Whi.nd {n:Nat}{f:Nat->Bool}{qs ks:List Cb}{i:Nat}(h:Whi n f qs i ks)(P:T7 n 0 f qs):ks.Nodup:=h.sub.nodup P.nd
theorem Whi.has {n:Nat}{f:Nat->Bool}{qs ks:List Cb}{i:Nat}{c:Cb}(h:Whi n f qs i ks)(e:qs[i]?=some c):c∈ks:=by
 obtain⟨dn,rfl,_⟩:=h.dn
 obtain⟨hi,rfl⟩:=ztv.mp e
 rw[List.drop_eq_getElem_cons hi]
 exact ztJ _ ztM
theorem Whi.stay {n:Nat}{f:Nat->Bool}{qs ks:List Cb}{i:Nat}{c:Cb}(h:Whi n f qs i ks)(e:qs[i]?=some c)(o:∃b,b<2^n/\Own ks c b):Whi n f qs (i+1) ks:=by
 obtain⟨dn,e1,s,hd⟩:=h.dn
 obtain⟨hi,rfl⟩:=ztv.mp e
 refine⟨⟨dn++[qs[i]],?_,?_,fun d hd'=>?_⟩,h.cov⟩
 ·rw[e1,List.drop_eq_getElem_cons hi,List.append_assoc]
  rfl
 ·rw[zY e]
  exact s.append (List.Sublist.refl _)
 ·rcases List.mem_append.mp hd' with z | z
  ·exact hd d z
  ·rw[List.mem_singleton.mp z];exact o
theorem Whi.gone {n:Nat}{f:Nat->Bool}{qs ks:List Cb}{i:Nat}{c:Cb}(P:T7 n 0 f qs)(h:Whi n f qs i ks)(e:qs[i]?=some c)(o:∀b,b<2^n->¬Own ks c b):Whi n f qs (i+1) (ks.filter fun d=>decide (d≠c)):=by
 have nd:=h.nd P
 have hc:=h.has e
 obtain⟨dn,e1,s,hd⟩:=h.dn
 obtain⟨hi,rfl⟩:=ztv.mp e
 have e2:ks=dn++qs[i]::qs.drop (i+1):=by rw[e1,List.drop_eq_getElem_cons hi]
 have n1:∀d∈dn,d≠qs[i]:=fun d hd' z=>by
  rw[e2] at nd
  exact(List.nodup_append.mp nd).2.2 d hd' _ ztM z
 have n2:∀d∈qs.drop (i+1),d≠qs[i]:=fun d hd' z=>by
  rw[e2] at nd
  have:=(List.nodup_cons.mp (List.nodup_append.mp nd).2.1).1
  rw[z] at hd'
  exact this hd'
 have ef:ks.filter (fun d=>decide (d≠qs[i]))=dn++qs.drop (i+1):=by
  rw[e2,zt6,List.filter_cons_of_neg (by simp),List.filter_eq_self.mpr fun d hd'=>decide_eq_true (n1 d hd'),List.filter_eq_self.mpr fun d hd'=>decide_eq_true (n2 d hd')]
 have sub:∀d∈ks.filter (fun d=>decide (d≠qs[i])),d∈ks:=fun d hd'=>(List.mem_filter.mp hd').1
 refine⟨⟨dn,ef,?_,fun d hd'=>?_⟩,fun b hb=>?_⟩
 ·rw[zY e]
  exact List.Sublist.trans s (List.sublist_append_left _ _)
 ·obtain⟨b,h1,h2⟩:=hd d hd'
  exact⟨b,h1,h2.less sub⟩
 ·rw[<-h.cov b hb]
  constructor
  ·rintro⟨d,h1,h2⟩
   exact⟨d,sub d h1,h2⟩
  ·rintro⟨d,h1,h2⟩
   by_cases z:d=qs[i]
   ·subst z
    have y:=o b hb
    have:∃d,¬(d∈ks->d≠qs[i]->yR d b=false):=Classical.not_forall.mp fun w=>y ⟨h2,w⟩
    obtain⟨d,hd'⟩:=this
    obtain⟨m1,hd'⟩:=Classical.not_imp.mp hd'
    obtain⟨m2,hd'⟩:=Classical.not_imp.mp hd'
    exact⟨d,List.mem_filter.mpr ⟨m1,decide_eq_true m2⟩,by simpa using hd'⟩
   ·exact⟨d,List.mem_filter.mpr ⟨h1,decide_eq_true z⟩,h2⟩
theorem Whi.done {n:Nat}{f:Nat->Bool}{qs ks:List Cb}(h:Whi n f qs qs.length ks):∀c∈ks,∃b,b<2^n/\Own ks c b:=by
 obtain⟨dn,e,_,hd⟩:=h.dn
 rw[List.drop_length,List.append_nil] at e
 subst e
 exact hd
def kvT (T:Cb->Nat)(c:Cb):Key×V:=(.inr (cbS c),.int (T c:Nat))
theorem zdx {T:Cb->Nat}:∀{ks:List Cb} {c:Cb},c∈ks->Zx (ks.map (kvT T)) (.inr (cbS c))=some (.int (T c:Nat))
 | d::ks,c,h=>by
  rw[ztR]
  by_cases z:d=c
  ·subst z
   exact vP rfl
  ·rw[wW (fun e=>z (Mt (Sum.inr.inj e)))]
   exact zdx ((List.mem_cons.mp h).resolve_left (Ne.symm z))
theorem zeL {T:Cb->Nat}:∀{ks:List Cb} {c:Cb},c∉ks->Zx (ks.map (kvT T)) (.inr (cbS c))=none
 | [],c,_=>rfl
 | d::ks,c,h=>by
  rw[ztR,wW (fun e=>h (by rw[Mt (Sum.inr.inj e)];exact ztM))]
  exact zeL fun z=>h (ztD _ z)
theorem zjU {T:Cb->Nat}{ks:List Cb}{c:Cb}:Jb (ks.map (kvT T)) (.inr (cbS c))=(ks.filter fun d=>decide (d≠c)).map (kvT T):=by
 unfold Jb
 rw[List.filter_map]
 congr 1
 refine List.filter_congr fun d _=>?_
 show decide ((kvT T d).1≠Sum.inr (cbS c))=_
 refine decide_eq_decide.mpr ⟨fun h e=>h (by rw[e];rfl),fun h e=>h (Mt (Sum.inr.inj e))⟩
def zaS (n:Nat)(f:Nat->Bool)(qs:List Cb):Bool:=(List.range (2^n)).all fun b=>(qs.any fun c=>yR c b)==f b
theorem zaT {n:Nat}{f:Nat->Bool}{qs:List Cb}:zaS n f qs=true↔∀b,b<2^n->(qs.any fun c=>yR c b)=f b:=by
 unfold zaS
 rw[ztW]
 exact⟨fun h b hb=>by simpa using h b (List.mem_range.mpr hb),fun h b hb=>by rw[h b (List.mem_range.mp hb)];simp⟩
inductive Qv (C:Addr)(K:Frag)(vs:List V)(H:Hp)(Q:VK)(E9:XK):Prop
 | mk (b l:Addr) (os:List Str) (rs:List Rm) (F:ZK) (k:Nat) (qs:List Cb) (_:vs=[.ref b,.int (k:Nat),.ref l]) (_:yP C H b os rs F) (_:k<rs.length) (_:zP K H l (qs.map cbV)) (_:∀q∈qs,q.length=os.length) (_:∀H',Same H H'->Q (.bl (zaS os.length (tB rs k) qs)) H'):Qv C K vs H Q E9
end yU
namespace L2
open PySem PySem.Spec PyProof.Rows
theorem zln {K:Frag}{a b:Addr}{xs ys:List V}{σ:St}{js:List Nat}{te:TE}{H:Hp}{Qf:Addr->Hp->List V->Prop}{x y:Str}(f:Nat->V)(hq1:zP K H a xs)(hq2:zP K H b ys)(hl:xs.length=ys.length)(hz:xs.length<=sizeLine)
  (hs:∀(i:Nat) u v H' (Q:V->Hp->Prop),xs[i]?=some u->ys[i]?=some v->Same H H'->(∀H3,Same H' H3->Q (f i) H3)->te (Lj σ js [some u,some v]) H' Q)
  (hd:∀H' p,Same H H'->H' p=none->Qf p H' ((List.range xs.length).map f)) :
  ∃W:Nat->Nat->List V->Hp->Prop,(∃m,W 0 m [] H)/\∀i m zs H,W i m zs H ->
   ((Itz K a b).stop i H/\∀p,H p=none->Qf p H zs) \/
   ((Itz K a b).go i H/\zs.length<sizeLine/\∀v H',(Itz K a b).R7 i H v H'->∀o0:List (Option V),o0.length=[x,y].length->zft K 2 (VR (Yg 0) (VR (Yg 1) zfs)) v (Lj σ js o0) H' fun σ2 H1=>∃o1,σ2=Lj σ js o1/\o1.length=[x,y].length/\Sw σ2 H1 fun b H2 =>
    if b=true then te σ2 H2 fun v H3=>∃m',m'<m/\W (i+1) m' (zs++[v]) H3 else ∃m',m'<m/\W (i+1) m' zs H2):=by
 refine⟨fun i m zs H'=>m=xs.length-i/\i<=xs.length/\Same H H'/\zs=(List.range i).map f,⟨_,rfl,ztP _,Same.refl _,rfl⟩,?_⟩
 rintro i m zs H1 ⟨rfl,hi,g,rfl⟩
 by_cases hlt:i<xs.length
 ·have ex:=ztt hlt
  have ey:=ztt (l:=ys) (i:=i) (by omega)
  refine .inr ⟨⟨xs,ys,_,_,g.seq hq1,g.seq hq2,ex,ey⟩,by rw[zts,ztK];omega,fun w H' y o0 l0=>?_⟩
  obtain⟨q,u,v,hu,hv,rfl,hn,rfl⟩:=y
  have eu:=hu xs (g.seq hq1)
  have ev:=hv ys (g.seq hq2)
  have eσ:((Lj σ js o0).set 0 (some u)).set 1 (some v)=Lj σ js [some u,some v]:=by
   match o0,l0 with
   | [a0,a1],_=>rfl
  refine⟨q,[u,v],rfl,wG.of zf,rfl,u,[v],rfl,v,[],rfl,rfl,[some u,some v],eσ,rfl,?_⟩
  show te (((Lj σ js o0).set 0 (some u)).set 1 (some v)) _ _
  rw[eσ]
  refine hs i u v _ _ eu ev (g.trans (Same.new hn _)) fun H3 g3=>⟨_,by omega,rfl,hlt,(g.trans (Same.new hn _)).trans g3,?_⟩
  rw[List.range_succ,ztG]
  rfl
 ·have e:i=xs.length:=by omega
  subst e
  exact .inl ⟨⟨xs,ys,g.seq hq1,g.seq hq2,.inl (ztI _)⟩,fun p hp=>hd H1 p g hp⟩
end L2
namespace yU
open PySem L2 yF
def tD (ns:List Int):List Bool:=ns.map fun x=>decide (x=1)
theorem zcw {n:Nat}{ns:List Int}(h:W7 n ns=true):ns.map V.int=zX (tD ns)/\(tD ns).length=n:=by
 unfold W7 at h
 rw[ztU,ztW] at h
 obtain⟨h1,h2⟩:=h
 refine⟨?_,by unfold tD;rw[zts];exact of_decide_eq_true h1⟩
 unfold zX tD
 rw[zt4]
 refine List.map_congr_left fun x hx=>?_
 have y:=h2 x hx
 have y:x=0\/x=1:=by simpa using y
 rcases y with rfl | rfl<;>rfl
def shw (n:Nat)(ks:List Cb)(c:Cb)(ns:List Int):Bool:=W7 n ns&&(yR c (zu (tD ns))&&decide (QK (ks.map yR) (zu (tD ns))=1))
def Mv (n:Nat)(f:Nat->Bool)(ks:List Cb)(rows:List (List Int)):Bool:=zaS n f ks&&(decide (rows.length=ks.length)&&(ks.all (yj n f)&&(List.range ks.length).all fun i=>shw n ks (ks.getD i []) (rows.getD i [])))
def zjV (H:Hp)(l:Addr)(rows:List (List Int)):Prop:=∃ps:List Addr,H l=some (.lst (ps.map V.ref))/\Paired (fun p ns=>H p=some (.lst (ns.map V.int))) ps rows
inductive zdy (C:Addr)(vs:List V)(H:Hp)(Q:VK)(E9:XK):Prop
 | mk (b l e:Addr) (os:List Str) (rs:List Rm) (F:ZK) (k:Nat) (ks:List Cb) (rows:List (List Int)) (_:vs=[.ref b,.int (k:Nat),.ref l,.ref e]) (_:yP C H b os rs F) (_:k<rs.length) (_:H l=some (.lst (ks.map cbV))) (_:∀q∈ks,q.length=os.length) (_:ks.length<=3000) (_:zjV H e rows) (_:rows.length<=3000) (_:∀ns∈rows,ns.length<=1000) (_:∀H',Same H H'->Q (.bl (Mv os.length (tB rs k) ks rows)) H'):zdy C vs H Q E9
def Xc (r:List Bool):List Int:=r.map fun b=>((b.toNat:Nat):Int)
theorem zh7 (r:List Bool):tD (Xc r)=r:=by
 unfold tD Xc
 rw[zt4]
 refine(List.map_congr_left fun b _=>?_).trans (List.map_id r)
 cases b<;>rfl
theorem zh8 {n:Nat}{r:List Bool}(h:r.length=n):W7 n (Xc r)=true:=by
 unfold W7
 rw[ztU,ztW]
 refine⟨decide_eq_true (by unfold Xc;rw[zts];exact h),fun x hx=>?_⟩
 obtain⟨b,_,rfl⟩:=List.mem_map.mp hx
 cases b<;>rfl
theorem zlo {q:Cb}{r:List Bool}(h:q.length=r.length):yR q (zu r)=(List.range r.length).all fun i=>mtS (q.getD i none) (r.getD i false):=by
 unfold yR
 rw[h]
 congr 1
 funext i
 rw[xQ,ztF,ztF]
 unfold mtS
 cases (q[i]?).getD none<;>rfl
theorem zh9 {n:Nat}{f:Nat->Bool}{ks:List Cb}:zaS n f ks=(allR n).all fun r=>(ks.any fun c=>yR c (zu r))==f (zu r):=by
 rw[zt8,zaT,ztW]
 constructor
 ·intro h r hr
  have l:=vQ _ r hr
  have lt:=Yl r
  rw[l] at lt
  rw[h _ lt]
  exact beq_self_eq_true _
 ·intro h b hb
  obtain⟨r,hr,e⟩:=zeK.zjK hb
  have z:=h r (by have:=zaK r;rwa [hr] at this)
  rw[e] at z
  exact eq_of_beq z
theorem zjW {ks:List Cb}{b k:Nat}(hk:k<ks.length):decide (((List.range ks.length).filter fun j=>yR (ks.getD j []) b)=[k])=(yR (ks.getD k []) b&&decide (QK (ks.map yR) b=1)):=by
 have em:(List.range ks.length).map (fun j=>ks.getD j [])=ks:=by
  refine List.ext_getElem? fun i=>?_
  rw[ztu]
  rcases Nat.lt_or_ge i ks.length with h | h
  ·rw[List.getElem?_range h,ztt h]
   show some (ks.getD i [])=_
   rw[ztF,ztt h]
   rfl
  ·rw[zt2 (by rw[ztK];exact h),zt2 h]
   rfl
 have el:((List.range ks.length).filter fun j=>yR (ks.getD j []) b).length=QK (ks.map yR) b:=by
  unfold QK
  have a1:(ks.map yR).filter (fun f=>f b)=(ks.filter fun c=>yR c b).map yR:=by rw[List.filter_map];rfl
  have a2:(ks.filter fun c=>yR c b)=((List.range ks.length).filter fun j=>yR (ks.getD j []) b).map fun j=>ks.getD j []:=by
   conv=>lhs;rw[<-em]
   rw[List.filter_map]
   rfl
  rw[a1,zts,a2,zts]
 rw[zt8,ztU,decide_eq_true_iff,decide_eq_true_iff,<-el]
 constructor
 ·intro h
  refine⟨?_,by rw[h];rfl⟩
  have z:k∈[k]:=List.mem_singleton.mpr rfl
  rw[<-h] at z
  exact(List.mem_filter.mp z).2
 ·rintro⟨h1,h2⟩
  have z:k∈(List.range ks.length).filter fun j=>yR (ks.getD j []) b:=List.mem_filter.mpr ⟨List.mem_range.mpr hk,h1⟩
  obtain⟨x,hx⟩:=List.length_eq_one_iff.mp h2
  rw[hx] at z ⊢
  rw[List.mem_singleton.mp z]
theorem zf9 {n:Nat}{f:Nat->Bool}{ks:List Cb}{rows:List (List Int)}(hc:zaS n f ks=true)(hl:rows.length=ks.length):Mv n f ks rows=(List.range ks.length).all fun i=>yU.W7 n (rows.getD i [])&&(yj n f (ks.getD i [])&&decide (((List.range ks.length).filter fun j=>yR (ks.getD j []) (zu (tD (rows.getD i []))))=[i])):=by
 unfold Mv shw
 rw[hc,decide_eq_true hl,Bool.true_and,Bool.true_and,zt8,ztU,ztW,ztW,ztW]
 constructor
 ·rintro⟨h1,h2⟩ i hi
  have z:=h2 i hi
  have hi:=List.mem_range.mp hi
  rw[zjW hi]
  rw[ztU] at z
  rw[ztU,ztU]
  refine⟨z.1,h1 _ ?_,z.2⟩
  rw[ztF,ztt hi]
  exact zt9 hi
 ·intro h
  refine⟨fun c hc=>?_,fun i hi=>?_⟩
  ·obtain⟨i,hi,e⟩:=zua hc
   have z:=h i (List.mem_range.mpr hi)
   rw[ztU,ztU] at z
   have z:=z.2.1
   rw[ztF,ztt hi] at z
   rw[<-e]
   exact z
  ·have z:=h i hi
   rw[zjW (List.mem_range.mp hi),ztU,ztU] at z
   rw[ztU]
   exact⟨z.1,z.2.2⟩
inductive PN (vs:List V)(H:Hp)(Q:VK)(E9:XK):Prop
 | mk (q:Cb) (p:Addr) (r:List Bool) (_:vs=[.str (cbS q),.ref p]) (_:H p=some (.lst (zX r))) (_:q.length=r.length) (_:r.length<=8) (_:∀H',Same H H'->Q (.bl (yR q (zu r))) H'):PN vs H Q E9
inductive Ko (vs:List V)(H:Hp)(Q:VK)(E9:XK):Prop
 | mk (l yl:Addr) (n:Nat) (f:Nat->Bool) (ks:List Cb) (_:vs=[.ref l,.ref yl,.int (n:Nat)]) (_:H l=some (.lst (ks.map cbV))) (_:∀q∈ks,q.length=n) (_:n<=8) (_:ks.length<=3000) (_:zeJ H yl n f) (_:∀H',Same H H'->Q (.bl (zaS n f ks)) H'):Ko vs H Q E9
inductive zaU (vs:List V)(H:Hp)(Q:VK)(E9:XK):Prop
 | mk (l e yl:Addr) (n:Nat) (f:Nat->Bool) (ks:List Cb) (rows:List (List Int)) (_:vs=[.ref l,.ref e,.ref yl,.int (n:Nat)]) (_:H l=some (.lst (ks.map cbV))) (_:∀q∈ks,q.length=n) (_:n<=8) (_:ks.length<=3000) (_:zeJ H yl n f) (_:zjV H e rows) (_:rows.length<=3000) (_:∀ns∈rows,ns.length<=1000) (_:∀H',Same H H'->Q (.bl (Mv n f ks rows)) H'):zaU vs H Q E9
end yU
namespace L2
open PySem PySem.Spec PyProof.Rows
def cbD (c:yU.Cb):PyData:=.str (yU.cbS c)
def rwD (ns:List Int):PyData:=.list (ns.map .int)
def zga (ks:List yU.Cb)(rows:List (List Int)):PyData:=.tuple [.list (ks.map cbD),.list (rows.map rwD)]
def shC (ks:List yU.Cb)(rows:List (List Int)):Str:=(zga ks rows).shown
def Sm (i:Int):Prop:=-2<=i/\i<=2
theorem zjX {i:Int}(h:Sm i):(PyData.int i).weight<=2/\(PyData.int i).showable=true/\(PyData.int i).leavesShort 13=true:=by
 obtain⟨h1,h2⟩:=h
 have:i=-2\/i=-1\/i=0\/i=1\/i=2:=by omega
 have l:(PyData.int i).weight<=2/\(PyData.int i).showable=true:=by rcases this with rfl | rfl | rfl | rfl | rfl<;>decide
 refine⟨l.1,l.2,?_⟩
 simp only[PyData.leavesShort]
 exact decide_eq_true (PyData.shown_int_le (by rcases this with rfl | rfl | rfl | rfl | rfl<;>decide))
theorem zaV:∀(r:List Int),(∀i∈r,Sm i)->PyData.showableAll (r.map .int)=true/\PyData.hasDictAll (r.map .int)=false/\PyData.depthAll (r.map .int)<=1/\PyData.leavesShortAll 13 (r.map .int)=true/\PyData.weightAll (r.map .int)<=3*r.length
 | [],_=>⟨rfl,rfl,ztP _,rfl,ztP _⟩
 | b::r,h=>by
  obtain⟨a1,a2,a3,a4,a5⟩:=zaV r fun x hx=>h x (ztD _ hx)
  obtain⟨w1,w2,w3⟩:=zjX (h b ztM)
  refine⟨?_,?_,?_,?_,?_⟩
  ·simp only[ztR,PyData.showableAll,a1,w2,Bool.and_true]
  ·simp only[ztR,PyData.hasDictAll,a2,PyData.hasDict,Bool.or_false]
  ·simp only[ztR,PyData.depthAll,PyData.depth]
   omega
  ·simp only[ztR,PyData.leavesShortAll,a4,w3,Bool.and_true]
  ·simp only[ztR,PyData.weightAll,ztE]
   omega
theorem Jf:∀(rr:List (List Int)),(∀r∈rr,r.length<=20/\∀i∈r,Sm i)->PyData.showableAll (rr.map rwD)=true/\PyData.hasDictAll (rr.map rwD)=false/\PyData.depthAll (rr.map rwD)<=2/\PyData.leavesShortAll 13 (rr.map rwD)=true/\PyData.weightAll (rr.map rwD)<=61*rr.length
 | [],_=>⟨rfl,rfl,ztP _,rfl,ztP _⟩
 | r::rr,h=>by
  obtain⟨a1,a2,a3,a4,a5⟩:=Jf rr fun x hx=>h x (ztD _ hx)
  obtain⟨lr,sm⟩:=h r ztM
  obtain⟨b1,b2,b3,b4,b5⟩:=zaV r sm
  refine⟨?_,?_,?_,?_,?_⟩
  ·simp only[ztR,PyData.showableAll,a1,Bool.and_true,rwD,PyData.showable,b1]
  ·simp only[ztR,PyData.hasDictAll,a2,rwD,PyData.hasDict,b2,Bool.or_false]
  ·simp only[ztR,PyData.depthAll,rwD,PyData.depth]
   omega
  ·simp only[ztR,PyData.leavesShortAll,a4,Bool.and_true,rwD,PyData.leavesShort,b4]
  ·simp only[ztR,PyData.weightAll,ztE,rwD,PyData.weight]
   omega
theorem zjY (c:yU.Cb):(cbD c).leavesShort 13=true:=by
 simp only[cbD,PyData.leavesShort]
 rw[ztW]
 intro x hx
 rw[yU.Rh] at hx
 obtain⟨s,_,rfl⟩:=List.mem_map.mp hx
 refine decide_eq_true ?_
 have:yU.T6 s<128:=by
  cases s with
  | none=>decide
  | some v=>cases v<;>decide
 exact ztB this (by decide)
theorem Jg:∀(ks:List yU.Cb),(∀c∈ks,c.length<=8)->PyData.showableAll (ks.map cbD)=true/\PyData.hasDictAll (ks.map cbD)=false/\PyData.depthAll (ks.map cbD)<=1/\PyData.leavesShortAll 13 (ks.map cbD)=true/\PyData.weightAll (ks.map cbD)<=9*ks.length
 | [],_=>⟨rfl,rfl,ztP _,rfl,ztP _⟩
 | c::ks,h=>by
  obtain⟨a1,a2,a3,a4,a5⟩:=Jg ks fun x hx=>h x (ztD _ hx)
  have lc:=h c ztM
  have z:=yU.Wm c
  refine⟨?_,?_,?_,?_,?_⟩
  ·simp only[ztR,PyData.showableAll,a1,Bool.and_true,cbD,PyData.showable]
  ·simp only[ztR,PyData.hasDictAll,a2,cbD,PyData.hasDict,Bool.or_false]
  ·simp only[ztR,PyData.depthAll,cbD,PyData.depth]
   omega
  ·simp only[ztR,PyData.leavesShortAll,a4,Bool.and_true,zjY]
  ·simp only[ztR,PyData.weightAll,ztE,cbD,PyData.weight,z]
   omega
theorem zaW {h:Heap}:∀{r:List Int} {us:List Value},Vals (r.map V.int) us->∃as,ReadsAll h us (r.map .int) as
 | [],_,.nil=>⟨_,.nil⟩
 | b::r,_,.cons e t=>by
  obtain⟨as,z⟩:=zaW t
  obtain⟨tk,rfl⟩:=e
  exact⟨_,.cons (.int _ _) z⟩
theorem Jh {h:Heap}:∀{ks:List yU.Cb} {us:List Value},Vals (ks.map yU.cbV) us->∃as,ReadsAll h us (ks.map cbD) as
 | [],_,.nil=>⟨_,.nil⟩
 | b::r,_,.cons e t=>by
  obtain⟨as,z⟩:=Jh t
  obtain⟨tk,rfl⟩:=e
  exact⟨_,.cons (.str _ _) z⟩
section
variable {X:Cx}
theorem Mw (hg:X.A.guards=some [])(hu:X.A.units+9<cLine):uW X (.builtin "repr") (fun xs H Q=>∃(t cl rl:Addr) (ks:List yU.Cb) (ps:List Addr) (rows:List (List Int)),xs=[.ref t]/\H t=some (.tup [.ref cl,.ref rl])/\H cl=some (.lst (ks.map yU.cbV))/\H rl=some (.lst (ps.map V.ref))/\Paired (fun p ns=>H p=some (.lst (ns.map V.int))) ps rows/\ks.length<=3000/\(∀c∈ks,c.length<=8)/\rows.length<=3000/\(∀r∈rows,r.length<=20/\∀i∈r,Sm i)/\Q (.str (shC ks rows)) H):=by
 intro pins s σ H xs us Q I r h
 obtain⟨t,cl,rl,ks,ps,rows,rfl,ht,hcl,hrl,pr,lk,l8,lr,hr,q⟩:=h
 obtain⟨u,rfl,rx⟩:=vals1 r
 cases rx
 obtain⟨hz,its,rv,o,hl,hcls,n,hdat⟩:=(show xO X.prog X.w H s.heap t (.tup [.ref cl,.ref rl]) from I.hok t _ ht)
 obtain⟨hz1,is1,c1,rv1,hl1⟩:=(show xO X.prog X.w H s.heap cl (.lst (ks.map yU.cbV)) from I.hok cl _ hcl)
 obtain⟨hz2,is2,c2,rv2,hl2⟩:=(show xO X.prog X.w H s.heap rl (.lst (ps.map V.ref)) from I.hok rl _ hrl)
 have all:∃as,ReadsAll s.heap is2 (rows.map rwD) as:=by
  clear hrl q hl2 hz2 c2 lr hr
  induction pr generalizing is2 with
  | nil=>cases rv2;exact⟨_,.nil⟩
  | @cons t r ps rr ht _ ih =>
   cases rv2 with
   | @cons _ u _ us ru rv' =>
    cases ru
    obtain⟨as,z⟩:=ih us rv'
    obtain⟨_,ks,c2,rk,hk⟩:=(show xO X.prog X.w H s.heap t (.lst (r.map V.int)) from I.hok t _ ht)
    obtain⟨bs,y⟩:=zaW (h:=s.heap) rk
    exact⟨_,.cons (.list hk rfl rfl (by simpa using y)) z⟩
 obtain⟨as,z⟩:=all
 obtain⟨bs,y⟩:=Jh (h:=s.heap) rv1
 obtain⟨f1,f2,f3,f4,f5⟩:=Jf rows hr
 obtain⟨e1,e2,e3,e4,e5⟩:=Jg ks l8
 have ri:its=[.ref cl,.ref rl]:=by
  cases rv with
  | cons r1 rv =>
   cases rv with
   | cons r2 rv =>
    cases rv
    cases r1
    cases r2
    rfl
 subst ri
 have rd:Reads s.heap (.ref t) (zga ks rows) _:=.tuple hl hcls hdat (.cons (.list hl1 rfl rfl (by simpa using y)) (.cons (.list hl2 rfl rfl (by simpa using z)) .nil))
 refine repr_of_reads' rd ?_ (PyData.noDict_hsm ?_) hg ?_ (fun _ _ e=>e) (fun h' u tk k=>?_) (PyData.shown_fits (B:=13) (by decide) (by decide) ?_ ?_)
 ·simp only[zga,PyData.showable,PyData.showableAll,e1,f1,Bool.and_true]
 ·simp only[zga,PyData.hasDict,PyData.hasDictAll,e2,f2,Bool.or_false]
 ·simp only[zga,PyData.depth,PyData.depthAll]
  omega
 ·exact⟨.str (shC ks rows),H,I.kept k,⟨u,rfl⟩,q⟩
 ·simp only[zga,PyData.leavesShort,PyData.leavesShortAll,e4,f4,Bool.and_true]
 ·simp only[zga,PyData.weight,PyData.weightAll]
  have:2^20=1048576:=rfl
  omega
end
end L2
namespace yU
open PySem L2 yF
section
variable {B H H':Hp}{cl rl:Addr}{n m:Nat}{ks ks':List Cb}{ps ps':List Addr}{rows rows':List (List Int)}
theorem zlp (r:List Bool):∀i∈Xc r,-2<=i/\i<=2:=fun i hi=>by
 unfold Xc at hi
 obtain⟨b,_,rfl⟩:=List.mem_map.mp hi
 cases b<;>decide
theorem zlq {f:Nat->Bool}{rows:List (List Bool)}(h:Cov n f ks rows):∀r∈rows,r.length=n:=fun r hr=>by
 obtain⟨i,hi,e⟩:=zua hr
 have l:=h.len
 exact(h.own i _ r (ztt (by omega)) (by rw[ztt hi,e])).1
end
end yU
namespace L2
open PySem PySem.Spec PyProof.Rows
def byT (w:World):Bool:=w.params.followText "set-order"
theorem zgb (t:SetTable)(es:Array (Int×Value))(h:Int)(x:Value):(layNew t es h x).2.1.led=t.led/\(t.plain=false->(layNew t es h x).2.1.plain=false):=by
 unfold layNew
 split
 ·dsimp only
  unfold SetTable.orStandIn
  split
  ·exact⟨rfl,fun e=>e⟩
  ·exact⟨rfl,fun _=>rfl⟩
 ·exact⟨rfl,fun _=>rfl⟩
theorem zdz (t:SetTable)(es:Array (Int×Value))(n:Nat):(relayAll t es n).2.1.led=t.led/\(t.plain=false->(relayAll t es n).2.1.plain=false):=by
 unfold relayAll
 split
 ·rename_i t' order e
  have k:t'.led=t.led/\t'.plain=t.plain:=by
   unfold SetTable.relaid SetTable.laid at e
   cases ho:SetTable.layClean (SetTable.sizeAbove n-1) (es.map (·.1)) with
   | none=>rw[ho] at e;cases e
   | some ow=>rw[ho] at e;cases e;exact⟨rfl,rfl⟩
  dsimp only
  split
  ·exact⟨k.1,fun e=>k.2.trans e⟩
  ·exact⟨rfl,fun _=>rfl⟩
 ·exact⟨rfl,fun _=>rfl⟩
section
variable {P:Program}{w:World}{A:Around}{R:Result->Shared->Prop}{E:Value->Shared->Prop}{s:Shared}
structure SetT (P:Program)(w:World)(h:Heap)(a:Addr)(S:Str->Bool)(n:Nat)(es:Array (Int×Value))(ep:Nat)(t:SetTable):Prop where
 at_:∃o,h.get? a=some o/\o.ExactSet/\o.data=.set es ep t
 el:ElemsOf (strKind P w) es.toList
 mem:∀k,S k=true↔∃e∈es.toList,(strKind P w).is k e.2=true
 bd:es.size<scanBound
 fit:t.fits es.size=true
 size:es.size=n
 led:t.led=(!byT w)
 plain:0<n->t.plain=false
def uX (P:Program)(w:World)(h:Heap)(a:Addr)(S:Str->Bool)(n:Nat):Prop:=∃es ep t,SetT P w h a S n es ep t
theorem SetT.keep {h h':Heap}{a:Addr}{S:Str->Bool}{n:Nat}{es:Array (Int×Value)}{ep:Nat}{t:SetTable}(H:SetT P w h a S n es ep t)(k:∀o,h.get? a=some o->h'.get? a=some o):SetT P w h' a S n es ep t :=
 let ⟨o,h1,h2⟩:=H.at_
 {H with at_:=⟨o,k o h1,h2⟩ }
theorem uX.congr {h:Heap}{a:Addr}{S S':Str->Bool}{n n':Nat}(H:uX P w h a S n)(e:∀k,S k=S' k)(en:n=n'):uX P w h a S' n':=by
 subst en
 rw[<-funext e]
 exact H
theorem zhq {h:Heap}{a:Addr}{o:Obj}{es es':Array (Int×Value)}{ep:Nat}{t t':SetTable}{S':Str->Bool}(ho:h.get? a=some o)(hx:o.ExactSet)(hd:o.data=.set es ep t)(hel:ElemsOf (strKind P w) es'.toList)(hm:∀k,S' k=true↔∃e∈es'.toList,(strKind P w).is k e.2=true)
  (hb:es'.size<scanBound)(hf:t'.fits es'.size=true)(hl:t'.led=(!byT w))(hp:t'.plain=false):SetT P w (h.update a (Obj.putSet es' t')) a S' es'.size es' (ep+1) t':=by
 obtain⟨g,_⟩:=SetOf_store (knd:=strKind P w) (S':=S') ho hx hd hel hm hb hf
 exact⟨⟨_,g,hx,rfl⟩,hel,hm,hb,hf,rfl,hl,fun _=>hp⟩
theorem zlr {a:Addr}{S:Str->Bool}{n:Nat}{k:Str}{tk:Tok}{Q:Bool->Shared->Prop}(hS:uX P w s.heap a S n)(hroom:n+1<scanBound)
  (q:∀h',Heap.SameBut a s.heap h'->uX P w h' a (fun k'=>S k'||decide (k'=k)) (if S k then n else n+1)->∀b,Q b { s with heap:=h' }) :
  wpAny (model P w) A (setAddHashed a (.str k tk) ((strKind P w).hash k)) Q E s:=by
 obtain⟨es,ep,t,H⟩:=hS
 obtain⟨o,ho,hx,hd⟩:=H.at_
 have key:(strKind P w).is k (.str k tk)=true:=strKind_is _ _ _ _
 unfold setAddHashed setAddHashedIn
 refine wpAny_holding (wpAny_bind (wpAny_setState_of ho hd H.fit ?_))
 dsimp only
 rw[byScan_of (knd:=strKind P w) (x:=.str k tk) rfl H.bd H.el,if_pos rfl]
 unfold setAddByScan
 refine wpAny_bind (wpAny_bind (wpAny_rule (wpAny_bind (wpAny_setScan_of key ho hd H.fit H.el ?_))))
 cases hr:List.findIdx? (fun e=>(strKind P w).is k e.2) es.toList with
 | some j =>
  dsimp only
  obtain⟨hj,hpj,_⟩:=List.findIdx?_eq_some_iff_getElem.mp hr
  have hk:S k=true:=(H.mem k).mpr ⟨es.toList[j],zt9 hj,hpj⟩
  refine wpAny_pure (wpAny_pure ?_)
  have y:=q s.heap (Heap.SameBut.refl a s.heap) (uX.congr ⟨es,ep,t,H⟩ (fun k'=>by
   by_cases e:k'=k
   ·rw[e,hk];rfl
   ·rw[decide_eq_false e,Bool.or_false]) (by rw[if_pos hk])) false
  cases s
  exact y
 | none =>
  dsimp only
  have hk:S k=false:=by
   cases hk:S k with
   | false=>rfl
   | true =>
    obtain⟨e,he,hp⟩:=(H.mem k).mp hk
    have:=List.findIdx?_eq_none_iff.mp hr e he
    rw[hp] at this
    cases this
  have pm:=layNew_perm t es ((strKind P w).hash k) (.str k tk)
  have ft:=layNew_fits t es ((strKind P w).hash k) (.str k tk)
  have ld:=zgb t es ((strKind P w).hash k) (.str k tk)
  generalize layNew t es ((strKind P w).hash k) (.str k tk)=L at pm ft ld ⊢
  obtain⟨e1,t1,wd,gv⟩:=L
  dsimp only at pm ft ld ⊢
  rw[Array.toList_push] at pm
  have el1:ElemsOf (strKind P w) e1.toList:=(H.el.push key rfl).perm pm
  have mm1:=mem_push_iff (knd:=strKind P w) key H.mem pm
  have sz1:e1.size=n+1:=by rw[<-Array.length_toList,pm.length_eq,ztA,Array.length_toList,H.size];rfl
  have bd1:e1.size<scanBound:=by omega
  have fin:∀(t2:SetTable) {E':Value->Shared->Prop},t2.fits e1.size=true->t2.led=(!byT w)->t2.plain=false->wpAny (model P w) A (do
    storeSet a e1 t2
    if (!wd&&t2.tooFull)=true then do
      (match (relayAll t2 e1 (SetTable.grown e1.size)).2.2 with | true=>rule "set.scan.the-table-gave-way" | false=>pure ())
      storeSet a (relayAll t2 e1 (SetTable.grown e1.size)).1 (relayAll t2 e1 (SetTable.grown e1.size)).2.1
      pure (some true)
     else pure (some true)) (fun b s'=>b=some true/\∃h',s'={ s with heap:=h' }/\Heap.SameBut a s.heap h'/\uX P w h' a (fun k'=>S k'||decide (k'=k)) (n+1)) E' s:=fun t2 E' f2 l2 p2=>by
   have T1:=zhq (S':=fun k'=>S k'||decide (k'=k)) ho hx hd el1 mm1 bd1 f2 l2 p2
   have b1:=Heap.SameBut.update s.heap a (Obj.putSet e1 t2)
   refine wpAny_bind (wpAny_storeSet_of ho hd ?_ (fits_of_scanBound bd1))
   split
   ·have pr:=relayAll_perm t2 e1 (SetTable.grown e1.size)
    have fr:=relayAll_fits t2 e1 (SetTable.grown e1.size)
    have lr:=zdz t2 e1 (SetTable.grown e1.size)
    generalize relayAll t2 e1 (SetTable.grown e1.size)=Z at pr fr lr ⊢
    obtain⟨e3,t3,g3⟩:=Z
    dsimp only at pr fr lr ⊢
    have sz3:e3.size=e1.size:=by rw[<-Array.length_toList,pr.length_eq,Array.length_toList]
    obtain⟨o1,ho1,hx1,hd1⟩:=T1.at_
    have T3:=zhq (S':=fun k'=>S k'||decide (k'=k)) (es':=e3) (t':=t3) ho1 hx1 hd1 (el1.perm pr) (fun k'=>(mm1 k').trans ⟨fun⟨e,he,z⟩=>⟨e,pr.mem_iff.mpr he,z⟩,fun⟨e,he,z⟩=>⟨e,pr.mem_iff.mp he,z⟩⟩) (by omega) fr (lr.1.trans l2) (lr.2 p2)
    have gw:∀{Q':Unit->Shared->Prop} {z:Shared},Q' () z->wpAny (model P w) A (match g3 with | true=>rule "set.scan.the-table-gave-way" | false=>pure ()) Q' E' z:=fun h=>by cases g3<;>first | exact wpAny_pure h | exact wpAny_rule h
    refine wpAny_bind (gw ?_)
    refine wpAny_bind (wpAny_storeSet_of ho1 hd1 ?_ (fits_of_scanBound (by omega)))
    refine wpAny_pure ⟨rfl,_,rfl,b1.trans (Heap.SameBut.update _ a _),uX.congr ⟨_,_,_,T3⟩ (fun _=>rfl) (by omega)⟩
   ·exact wpAny_pure ⟨rfl,_,rfl,b1,uX.congr ⟨_,_,_,T1⟩ (fun _=>rfl) sz1⟩
  have last:∀{m:Sem (Option Bool)} {f:Option Bool->Sem Bool},(∀E',wpAny (model P w) A m (fun b s'=>b=some true/\∃h',s'={ s with heap:=h' }/\Heap.SameBut a s.heap h'/\uX P w h' a (fun k'=>S k'||decide (k'=k)) (n+1)) E' s)->f (some true)=pure true->wpAny (model P w) A m (fun b s'=>wpAny (model P w) A (f b) Q E s') E s:=fun h e=>by
   refine wpAny_mono (h E) (fun b s' z=>?_) fun _ _ z=>z
   obtain⟨rfl,h',rfl,sb,sx⟩:=z
   rw[e]
   exact wpAny_pure (q h' sb (uX.congr sx (fun _=>rfl) (by rw[hk];rfl)) true)
  have g0:∀{Q':Unit->Shared->Prop} {E':Value->Shared->Prop} {z:Shared},Q' () z->wpAny (model P w) A (match gv with | true=>rule "set.scan.the-table-gave-way" | false=>pure ()) Q' E' z:=fun h=>by cases gv<;>first | exact wpAny_pure h | exact wpAny_rule h
  refine wpAny_bind (g0 ?_)
  by_cases pl:t1.plain=true
  ·rw[if_pos pl]
   refine wpAny_bind (wpAny_of_eq (show hashByValue 8 (.str k tk)=pure false from rfl) ?_)
   simp only[Bool.false_eq_true,if_false]
   exact last (fun E'=>fin _ (SetTable.fits_plain_off ft) (ld.1.trans H.led) rfl) rfl
  ·rw[if_neg pl]
   refine wpAny_bind (wpAny_pure ?_)
   have p1:t1.plain=false:=by cases h:t1.plain with | true=>exact absurd h pl | false=>rfl
   exact last (fun E'=>fin _ ft (ld.1.trans H.led) p1) rfl
theorem uX.keep {h h':Heap}{a:Addr}{S:Str->Bool}{n:Nat}(H:uX P w h a S n)(k:∀o,h.get? a=some o->h'.get? a=some o):uX P w h' a S n :=
 let ⟨es,ep,t,H⟩:=H
 ⟨es,ep,t,H.keep k⟩
theorem zia {I:Addr}{fp wr:List Addr}{G:Array GenState->Array GenState->Prop}{n:Nat}{Pv:Nat->Value->Prop}{St:Nat->Shared->Prop}(W:WalksS P w A.in1 I fp wr G n Pv St)(S:Addr)(hS:S∉fp)(xs:List Str)(hn:xs.length=n)
  (hv:∀i v,Pv i v->∃t,v=.str (xs.getD i "") t)(hb:n+1<scanBound) :
  ∀(k i:Nat) (z:Shared),n-i=k->i<=n->St i z->uX P w z.heap S (fun q=>(dd (xs.take i)).any (·==q)) (dd (xs.take i)).length ->
   (∀z',Moved (S::wr) G z z'->uX P w z'.heap S (fun q=>(dd xs).any (·==q)) (dd xs).length->R (.ok (.ret .none)) z') ->
   codeAny (model P w) A (.builtin "set.update.loop" ⟨[.ref S,.ref I],[]⟩) R z:=by
 have ziX:S∉wr:=fun h=>hS (W.sub _ h)
 have more:∀b∈wr,b∈S::wr:=fun b h=>ztD _ h
 intro k
 induction k with
 | zero =>
  intro i z hk hi st zcY fin
  have ei:i=n:=by omega
  subst ei
  refine codeAny_builtin PyProof.Rows.F.entry_set_update_loop ?_
  rw[Around.under_plainId PyProof.Rows.F.plain_set_update_loop _]
  show wpAny _ A.in1 (pyNext (.ref I)>>=_) _ _ z
  refine wpAny_bind (W.done z _ _ st fun z' mv=>?_)
  show wpAny _ A.in1 (ret Value.none) _ _ z'
  refine wpAny_pure (fin z' (mv.mono more) ?_)
  rw[<-hn,ztV] at zcY
  exact zcY.keep fun o e=>mv.heap S o ziX e
 | succ k ih =>
  intro i z hk hi st zcY fin
  have il:i<n:=by omega
  refine codeAny_builtin PyProof.Rows.F.entry_set_update_loop ?_
  rw[Around.under_plainId PyProof.Rows.F.plain_set_update_loop _]
  show wpAny _ A.in1 (pyNext (.ref I)>>=_) _ _ z
  refine wpAny_bind (W.item i z _ _ il st fun v z' pv st' mv=>?_)
  obtain⟨t,rfl⟩:=hv i v pv
  have hset':uX P w z'.heap S (fun q=>(dd (xs.take i)).any (·==q)) (dd (xs.take i)).length:=zcY.keep fun o e=>mv.heap S o ziX e
  show wpAny _ A.in1 (holding [Value.str (xs.getD i "") t] (setAdd S (.str (xs.getD i "") t))>>=_) _ _ z'
  refine wpAny_bind (wpAny_holding ?_)
  unfold setAdd
  refine wpAny_holding ?_
  refine wpAny_bind ((strKind P w).pyHash (k:=xs.getD i "") (strKind_is _ _ _ _) ?_)
  have hroom:(dd (xs.take i)).length+1<scanBound:=by
   have:=ziV (xs.take i)
   rw[ztQ] at this
   omega
  have et:xs.take (i+1)=xs.take i++[xs.getD i ""]:=by
   rw[List.take_succ,ztF,ztt (by omega)]
   rfl
  refine zlr (s:={ z' with toks:=z'.toks+1 }) hset' hroom fun h' sb s2 b'=>?_
  have ziY:uX P w h' S (fun q=>(dd (xs.take (i+1))).any (·==q)) (dd (xs.take (i+1))).length :=
   s2.congr (fun q=>by rw[et,J5,Qa]) (by rw[et,J5,Xy])
  refine wpAny_pure ⟨plainId_quiet PyProof.Rows.F.plain_set_update_loop _,ih (i+1) _ (by omega) il (W.frame _ z' _ _ st' (Nat.le_succ _) fun b hb' o e=>?_) ziY fun z'' mv2 s3=>?_⟩
  ·rw[sb.2 b (fun h:b=S=>hS (by rw[<-h];exact hb'))];exact e
  ·refine fin z'' (Moved.trans W.gtrans ((mv.mono more).then_heap (Nat.le_succ _) fun b o hb' e=>?_) mv2) s3
   rw[sb.2 b (fun h:b=S=>hb' (by rw[h];exact ztM))];exact e
theorem zjZ (a:Value){Q₁:Value->Shared->Prop}(h:Q₁ (.ref s.heap.objs.size) { s with heap:=s.heap.push (Wh (!byT w)) }):codeAny (model P w) A (.call (.builtin "set.__new__") ⟨[.type "set", a],[]⟩) (wants Q₁ E) s:=by
 refine codeAny_of_tree ?_
 show wpAny _ A.in1 (checkBuiltinCall "set.__new__" ⟨[.type "set", a],[]⟩>>=fun _=>again (.builtin "set.__new__" ⟨[.type "set", a],[]⟩)) _ _ s
 refine wpAny_bind (wpAny_of_eq (F.newCall_set_1 a) (wpAny_pure ⟨plainId_quiet F.plain_set_new _,codeAny_builtin F.entry_set_new ?_⟩))
 rw[Around.under_plainId F.plain_set_new _]
 unfold Builtin.«set.__new__» Builtin.Frozenset.newClass
 have hs:=sub_set_self
 obtain⟨hp,g,d,tk,os⟩:=s
 dsimp only at h ⊢
 wp_walk
 refine wpAny_askSetting (wpAny_pure ?_)
 dsimp only
 simp only[newObj]
 refine wpAny_bind (wpAny_alloc (wpAny_pure ?_))
 exact wpAny_pure h
set_option maxHeartbeats 8000000 in
theorem zib {l:Addr}{us:List Value}{xs:List Str}{Q:Value->Shared->Prop}(hh:A.handled=none)(hl:s.heap.IsList l us.toArray)(r:Vals (xs.map V.str) us)(hb:xs.length+1<scanBound)
  (h:∀(h':Heap) (tk:Nat),uX P w h' s.heap.objs.size (fun q=>(dd xs).any (·==q)) (dd xs).length->(∀b o,s.heap.get? b=some o->h'.get? b=some o)->Q (.ref s.heap.objs.size) { s with heap:=h',toks:=tk }) :
  wpAny (model P w) A (call (.type "set") [.ref l]) Q E s:=by
 have hlen:xs.length=us.toArray.size:=by have:=r.length;rw[zts] at this;simpa using this
 obtain⟨cc,tl,hmro⟩:=F.called_set.mro
 have made:=F.called_set.made
 have sub:=F.called_set.sub
 refine wpAny_call (codeAny_of_tree ?_)
 show wpAny _ _ (callAny (.type "set") _) _ _ _
 refine wpAny_pure ⟨Code.quiet_builtin _ (by decide +kernel),codeAny_builtin F.entry_type_call ?_⟩
 rw[Around.under_plain (weight_type_call_type "set" [.ref l] []) rfl]
 have a1:=F.called_set.notType
 have a2:=F.called_set.canCreate
 have a3:=F.typeCall_set_1 (.ref l)
 repeat (any_goals (first | assumption | wp_step))
 refine codeAny_mono (zjZ (.ref l) (E:=E) (Q₁:=fun ob z=>∃led:Bool,led=(!byT w)/\ob=.ref s.heap.objs.size/\z={ s with heap:=s.heap.push { cls:=.type "set", dict:=none,data:=.set #[] 0 (.fresh 0 0 led) } }) ⟨_,rfl,rfl,rfl⟩) fun res z hres=>?_
 cases res with
 | error e=>exact hres
 | ok fl =>
  cases fl with
  | ret ob =>
   obtain⟨led,el,rfl,rfl⟩:=hres
   have gS:(s.heap.push (Wh led)).get? s.heap.objs.size=some (Wh led):=ztN _ rfl
   have tS:Shared.TypeIs { s with heap:=s.heap.push (Wh led) } (.ref s.heap.objs.size) "set" := ⟨_,gS,rfl⟩
   have b1:=F.called_set.init.lookup
   have b2:=F.called_set.init.bind (.ref s.heap.objs.size)
   repeat (any_goals (first | assumption | wp_step))
   refine codeAny_mono (codeAny_call_builtin (R:=wants (fun v z=>v=.none/\∃h' tk,z={ s with heap:=h',toks:=tk }/\uX P w h' s.heap.objs.size (fun q=>(dd xs).any (·==q)) (dd xs).length/\(∀b o,s.heap.get? b=some o->h'.get? b=some o)) E)
    F.called_set.init.plain F.entry_set_init (check_set_init_1 tS ?_)) fun res2 z2 zat=>?_
   ·obtain⟨ol,gl,cl,nl,dl⟩:=hl
    obtain⟨ocls,odict,odata,oslots⟩:=ol
    have cl':ocls=.type "list" := cl
    have dl':odata=.seq us.toArray nl:=dl
    subst cl' dl'
    have gl':(s.heap.push (Wh led)).get? l=some { cls:=.type "list", dict:=odict,data:=.seq us.toArray nl,slots:=oslots }:=zty _ gl
    have c1:=F.sub_list_set
    have c2:=F.sub_list_frozenset
    have c3:(Value.type "list" == Value.type "dict")=false:=by decide
    have isl:(s.heap.push (Wh led)).IsList l us.toArray:=⟨_,gl',rfl,nl,rfl⟩
    unfold Builtin.«set.__init__» noKeywords Builtin.Frozenset.updateFrom
    generalize hit:pyIter=itf
    wp_walk
    subst hit
    refine wpAny_pyIter_list isl ?_
    refine wpAny_bind (wpAny_runValue ?_)
    have ltl:l<s.heap.objs.size:=ztz gl
    have hd3:A.in1.in1.in1.handled=none:=by simp[hh]
    have sz1:(s.heap.push (Wh led)).objs.size=s.heap.objs.size+1:=Heap.size_push ..
    have nel:l≠(s.heap.push (Wh led)).objs.size:=by rw[sz1];exact ztH (Nat.lt_succ_of_lt ltl)
    have nin:s.heap.objs.size∉[(s.heap.push (Wh led)).objs.size,l]:=by
     rw[sz1]
     simp only[List.mem_cons,ztT,or_false,not_or]
     exact⟨ztH (Nat.lt_succ_self _),Nat.ne_of_gt ltl⟩
    refine zia ((Walks.list hd3 _ l nel us.toArray).toS) s.heap.objs.size nin xs hlen (fun i v hv=>zgS r i v (by simpa using hv)) (by rw[<-hlen];exact hb) (us.toArray.size-0) 0 _ (by omega) (ztP _)
     ⟨⟨_,ztN _ rfl,rfl,rfl⟩,isl.push _⟩ ?s0 ?fin
    case s0 =>
     have gg:((s.heap.push (Wh led)).push { cls:=.type "list_iterator", data:=.fields #[.ref l,.int 0 0] }).get? s.heap.objs.size=some (Wh led):=zty _ gS
     exact⟨#[],0,_,⟨_,gg,⟨rfl,rfl,rfl⟩,rfl⟩,(fun e he=>by simp at he),(fun k=>by simp[dd]),by decide,by rfl,rfl,el,fun h=>absurd h (Nat.lt_irrefl _)⟩
    case fin =>
     intro z mv sz
     obtain⟨h',g',d',tk',os'⟩:=z
     have e1:g'=s.gens:=mv.gens
     have e2:d'=s.drawn:=mv.drawn
     have e3:os'=s.os:=mv.os
     subst e1 e2 e3
     show wpAny _ _ _ _ _ _
     refine wpAny_pure ?_
     show wpAny _ _ (ret Value.none) _ _ _
     refine wpAny_pure ⟨rfl,h',tk',rfl,sz,fun b o e=>?_⟩
     have lb:=ztz e
     have n1:b≠s.heap.objs.size:=ztH lb
     have n2:b≠(s.heap.push (Wh led)).objs.size:=by rw[sz1];exact ztH (Nat.lt_succ_of_lt lb)
     exact mv.heap b o (by simp only[List.mem_cons,ztT,or_false,not_or];exact⟨n1,n2⟩) (zty _ (zty _ e))
   ·cases res2 with
    | error e=>exact zat
    | ok fl2 =>
     cases fl2 with
     | ret v =>
      obtain⟨rfl,h',tk,rfl,sS,kk⟩:=zat
      repeat (any_goals (first | assumption | wp_step))
      exact h _ _ sS kk
     | _=>exact zat.elim
  | _=>exact hres.elim
end
theorem slot_set_iter:Slot "set" "__iter__" "set.__iter__" :=
 .of (owner := "set") (n := "__iter__") (by rw[typeLookup_type,builtinLookup_eq_fast];kernel_rfl) (by decide +kernel) (by decide +kernel) (by decide +kernel)
  (by first | exact .inl (by decide +kernel) | exact .inr (by decide +kernel)) (by rw[isSubtype_type];kernel_rfl)
theorem yg:Slot "set_iterator" "__next__" "set_iterator.__next__" :=
 .of (owner := "set_iterator") (n := "__next__") (by rw[typeLookup_type,builtinLookup_eq_fast];kernel_rfl) (by decide +kernel) (by decide +kernel) (by decide +kernel)
  (by first | exact .inl (by decide +kernel) | exact .inr (by decide +kernel)) (by rw[isSubtype_type];kernel_rfl)
theorem zaX:entryFor table "set.__iter__"=some Builtin.«frozenset.__iter__» :=
 entryFor_alias (id' := "frozenset.__iter__") (by kernel_rfl) rfl (by decide +kernel) (by kernel_rfl)
theorem vI:entryFor table "set_iterator.__next__"=some Builtin.«set_iterator.__next__»:=entryFor_of_fast (by kernel_rfl)
theorem zbC (a:Value):argsOk "set.__iter__" ⟨[a],[]⟩:=by unfold argsOk;kernel_rfl
theorem ug (a:Value):argsOk "set_iterator.__next__" ⟨[a],[]⟩:=by unfold argsOk;kernel_rfl
theorem Vd:Slot "set_iterator" "__iter__" "set_iterator.__iter__" :=
 .of (owner := "set_iterator") (n := "__iter__") (by rw[typeLookup_type,builtinLookup_eq_fast];kernel_rfl) (by decide +kernel) (by decide +kernel) (by decide +kernel)
  (by first | exact .inl (by decide +kernel) | exact .inr (by decide +kernel)) (by rw[isSubtype_type];kernel_rfl)
theorem PX:entryFor table "set_iterator.__iter__"=some Builtin.«dict_keyiterator.__iter__» :=
 entryFor_alias (id' := "dict_keyiterator.__iter__") (by kernel_rfl) rfl (by decide +kernel) (by kernel_rfl)
theorem Mx (a:Value):argsOk "set_iterator.__iter__" ⟨[a],[]⟩:=by unfold argsOk;kernel_rfl
theorem zaY {α:Type}:∀{l:List α} {i:Nat} (h:i<l.length),(l[i]::l.eraseIdx i).Perm l
 | x::l,0,_=>.refl _
 | x::l,i+1,h=>(List.Perm.swap x _ _).trans ((zaY (by simpa using h)).cons x)
theorem zhr {α:Type}(next:Nat->Nat):∀(fuel k:Nat) (left:List α) (out:Array α),left.length=fuel->(pickOrder.go next fuel k left out).toList.Perm (out.toList++left)
 | 0,k,left,out,h=>by
  have:left=[]:=List.eq_nil_of_length_eq_zero h
  subst this
  unfold pickOrder.go
  rw[List.append_nil]
 | fuel+1,k,left,out,h=>by
  have lt:next k%left.length<left.length:=Nat.mod_lt _ (by omega)
  unfold pickOrder.go
  rw[ztt lt]
  dsimp only
  refine(zhr next fuel (k+1) _ _ (by rw[List.length_eraseIdx_of_lt lt];omega)).trans ?_
  rw[Array.toList_push,List.append_assoc]
  exact(List.Perm.refl _).append (zaY lt)
theorem Kp {α:Type}(next:Nat->Nat)(xs:Array α):(pickOrder next xs).toList.Perm xs.toList:=zhr next _ 0 _ _ (by simp)
section
variable {P:Program}{w:World}{A:Around}{E:Value->Shared->Prop}{s:Shared}
theorem zgc {src:Source}{n:Nat}{Q:Nat->Shared->Prop}(hn:0<n)(h:∀i d,i<n->Q i { s with drawn:=d }):wpAny (model P w) A (choose src n) Q E s:=fun Γ p _=>⟨by omega,h _ _ (Nat.mod_lt _ hn)⟩
theorem zcx {α:Type}:∀(n:Nat) (xs:List α) {s:Shared} {Q:List α->Shared->Prop},xs.length=n->(∀ys d,ys.Perm xs->Q ys { s with drawn:=d })->wpAny (model P w) A (drawOrder n xs) Q E s
 | 0,xs,s,Q,h,q=>by
  have:xs=[]:=List.eq_nil_of_length_eq_zero h
  subst this
  unfold drawOrder
  exact wpAny_pure (q [] s.drawn (.refl _))
 | n+1,[],s,Q,h,q=>by cases h
 | n+1,x::xs,s,Q,h,q=>by
  unfold drawOrder
  refine wpAny_bind (zgc (by simp) fun i d lt=>?_)
  rw[ztt lt]
  dsimp only
  refine wpAny_bind (zcx n ((x::xs).eraseIdx i) (by rw[List.length_eraseIdx_of_lt lt];omega) fun ys d' pm=>?_)
  exact wpAny_pure (q _ d' ((pm.cons _).trans (zaY lt)))
abbrev JB (first:Value)(i:Nat)(a:Addr)(n ep:Nat):Obj:={ cls:=.type "set_iterator", data:=.fields #[first,rawInt i,.ref a,rawInt n,rawInt ep] }
theorem zeM {it a:Addr}{S:Str->Bool}{n i ep f g:Nat}{es:Array (Int×Value)}{t:SetTable}{x:Value}{Q:Option Value->Shared->Prop}(T:SetT P w s.heap a S n es ep t)(hit:s.heap.get? it=some (JB (rawInt f) i a n ep))
  (hn:∀{A':Around} {E':Value->Shared->Prop} {Q':Option (Value×Nat)->Shared->Prop},Q' (some (x,g)) s->wpAny (model P w) A' (setNext a f i ep) Q' E' s)
  (hQ:∀h',h'.get? it=some (JB (rawInt g) (i+1) a n ep)->Heap.SameBut it s.heap h'->Q (some x) { s with heap:=h' }):wpAny (model P w) A (pyNext (.ref it)) Q E s:=by
 have hT:s.TypeIs (.ref it) "set_iterator" := ⟨_,hit,rfl⟩
 obtain⟨o,ho,hx,hd⟩:=T.at_
 unfold pyNext
 refine wpAny_bind (wpAny_attempt (wpAny_callSpecial?_slot (name:=Str.ofString "__next__") hT yg (wpAny_call_entry yg hT vI ?_ (ug _))))
 show wpAny _ _ (fieldsOf (.ref it)>>=_) _ _ s
 refine wpAny_bind (wpAny_fieldsOf hit rfl ?_)
 show wpAny _ _ (setEntries a>>=_) _ _ s
 refine wpAny_bind (wpAny_setEntries_of ho hd T.fit ?_)
 rw[T.size]
 rw[if_neg (show ¬(((n:Nat):Int) != ((n:Nat):Int))=true by simp)]
 refine wpAny_bind (hn ?_)
 show wpAny _ _ (setField (.ref it) 0 (rawInt g)>>=_) _ _ s
 refine wpAny_bind (wpAny_setField hit rfl (by simp) ?_)
 have h1:(s.heap.update it (Obj.mapFields (·.setIfInBounds 0 (rawInt g)))).get? it=some (JB (rawInt g) i a n ep):=by
  have:=Heap.get?_update_self (Obj.mapFields (·.setIfInBounds 0 (rawInt g))) hit rfl
  exact this
 show wpAny _ _ (setField (.ref it) 1 (rawInt ((i:Int)+1))>>=_) _ _ _
 refine wpAny_bind (wpAny_setField h1 rfl (by simp) (wpAny_pure ⟨x,rfl,wpAny_pure (hQ _ ?_ ((Heap.SameBut.update ..).trans (Heap.SameBut.update ..)))⟩))
 exact Heap.get?_update_self (Obj.mapFields (·.setIfInBounds 1 (rawInt ((i:Int)+1)))) h1 rfl
theorem zeN {it:Addr}{Q:Option Value->Shared->Prop}{h0:Heap}(hh:A.handled=none)(hQ:∀h',Heap.ExtBut it h0 h'->Q none { s with heap:=h' })(sb:Heap.ExtBut it h0 s.heap) :
  wpAny (model P w) A.in1 (newExc (.type "StopIteration") []>>=fun e=>(raiseNew e:Sem PySem.Fin)) (fun fin s'=>∃v,fin=.done (.ret v)/\wpAny (model P w) A (pure (some v)) Q E s') (fun e s'=>wpAny (model P w) A (isInstance e (.type "StopIteration")>>=fun b=>if b=true then pure none else throw e) Q E s') s:=by
 refine wpAny_bind ?_
 simp only[newExc,newTuple]
 refine wpAny_bind (wpAny_newObj_type ?_ (by size_fits))
 refine wpAny_bind (m:=firstArgMember _ _) (wpAny_of_eq (a:=Value.none) (by first | rfl | (simp only[firstArgMember];rfl)) ?_)
 refine wpAny_newObj_type ?_ (by size_fits)
 simp only[raiseNew]
 refine wpAny_bind (wpAny_handled ?_)
 rw[show A.in1.handled=none from hh]
 refine wpAny_bind (wpAny_pure (wpAny_throw ?_))
 refine wpAny_bind (wpAny_isInstance (T := "StopIteration") (b:=true) ⟨_,ztN _ rfl,rfl⟩ isSubtype_stop ?_)
 exact wpAny_pure (hQ _ ((sb.push _).push _))
theorem zhs {it a:Addr}{S:Str->Bool}{n i ep f:Nat}{es:Array (Int×Value)}{t:SetTable}{Q:Option Value->Shared->Prop}(hh:A.handled=none)(T:SetT P w s.heap a S n es ep t)(hit:s.heap.get? it=some (JB (rawInt f) i a n ep))
  (hn:∀{A':Around} {E':Value->Shared->Prop} {Q':Option (Value×Nat)->Shared->Prop},Q' none s->wpAny (model P w) A' (setNext a f i ep) Q' E' s)
  (hQ:∀h',Heap.ExtBut it s.heap h'->Q none { s with heap:=h' }):wpAny (model P w) A (pyNext (.ref it)) Q E s:=by
 have hT:s.TypeIs (.ref it) "set_iterator" := ⟨_,hit,rfl⟩
 obtain⟨o,ho,hx,hd⟩:=T.at_
 unfold pyNext
 refine wpAny_bind (wpAny_attempt (wpAny_callSpecial?_slot (name:=Str.ofString "__next__") hT yg (wpAny_call_entry yg hT vI ?_ (ug _))))
 show wpAny _ _ (fieldsOf (.ref it)>>=_) _ _ s
 refine wpAny_bind (wpAny_fieldsOf hit rfl ?_)
 show wpAny _ _ (setEntries a>>=_) _ _ s
 refine wpAny_bind (wpAny_setEntries_of ho hd T.fit ?_)
 rw[T.size]
 rw[if_neg (show ¬(((n:Nat):Int) != ((n:Nat):Int))=true by simp)]
 refine wpAny_bind (hn ?_)
 show wpAny _ _ (setField (.ref it) 2 .none>>=_) _ _ s
 refine wpAny_bind (wpAny_setField hit rfl (by simp) ?_)
 exact zeN (it:=it) (h0:=s.heap) hh hQ (Heap.SameBut.update ..).extBut
theorem zgd {it a tp:Addr}{S:Str->Bool}{n i ep j:Nat}{es:Array (Int×Value)}{t:SetTable}{pl:Array Value}{tn:Nat}{ot:Obj}{e:Int×Value}{Q:Option Value->Shared->Prop}(T:SetT P w s.heap a S n es ep t)(hit:s.heap.get? it=some (JB (.ref tp) i a n ep))(htp:s.heap.get? tp=some ot)(hot:ot.data=.seq pl tn)
  (hj:pl[i]?=some (rawInt j))(he:es[j]?=some e)
  (hQ:∀h',h'.get? it=some (JB (.ref tp) (i+1) a n ep)->Heap.SameBut it s.heap h'->Q (some e.2) { s with heap:=h' }):wpAny (model P w) A (pyNext (.ref it)) Q E s:=by
 have hT:s.TypeIs (.ref it) "set_iterator" := ⟨_,hit,rfl⟩
 obtain⟨o,ho,hx,hd⟩:=T.at_
 unfold pyNext
 refine wpAny_bind (wpAny_attempt (wpAny_callSpecial?_slot (name:=Str.ofString "__next__") hT yg (wpAny_call_entry yg hT vI ?_ (ug _))))
 show wpAny _ _ (fieldsOf (.ref it)>>=_) _ _ s
 refine wpAny_bind (wpAny_fieldsOf hit rfl ?_)
 show wpAny _ _ (setEntries a>>=_) _ _ s
 refine wpAny_bind (wpAny_setEntries_of ho hd T.fit ?_)
 rw[T.size]
 rw[if_neg (show ¬(((n:Nat):Int) != ((n:Nat):Int))=true by simp)]
 refine wpAny_bind (wpAny_seqItems htp hot ?_)
 dsimp only
 rw[zt5,hj]
 show wpAny _ _ (setNextDrawn a (Int.toNat j) (Int.toNat ep)>>=_) _ _ s
 unfold setNextDrawn
 refine wpAny_bind (wpAny_bind (wpAny_setState_of ho hd T.fit ?_))
 dsimp only
 rw[zt5,zt5,if_neg (show ¬(ep != ep)=true by simp),he]
 refine wpAny_pure ?_
 show wpAny _ _ (setField (.ref it) 1 (rawInt ((i:Int)+1))>>=_) _ _ _
 refine wpAny_bind (wpAny_setField hit rfl (by simp) (wpAny_pure ⟨e.2,rfl,wpAny_pure (hQ _ ?_ (Heap.SameBut.update ..))⟩))
 exact Heap.get?_update_self (Obj.mapFields (·.setIfInBounds 1 (rawInt ((i:Int)+1)))) hit rfl
theorem zic {it a tp:Addr}{S:Str->Bool}{n i ep:Nat}{es:Array (Int×Value)}{t:SetTable}{pl:Array Value}{tn:Nat}{ot:Obj}{Q:Option Value->Shared->Prop}(hh:A.handled=none)(T:SetT P w s.heap a S n es ep t)(hit:s.heap.get? it=some (JB (.ref tp) i a n ep))(htp:s.heap.get? tp=some ot)(hot:ot.data=.seq pl tn)
  (hj:pl[i]?=none)
  (hQ:∀h',Heap.ExtBut it s.heap h'->Q none { s with heap:=h' }):wpAny (model P w) A (pyNext (.ref it)) Q E s:=by
 have hT:s.TypeIs (.ref it) "set_iterator" := ⟨_,hit,rfl⟩
 obtain⟨o,ho,hx,hd⟩:=T.at_
 unfold pyNext
 refine wpAny_bind (wpAny_attempt (wpAny_callSpecial?_slot (name:=Str.ofString "__next__") hT yg (wpAny_call_entry yg hT vI ?_ (ug _))))
 show wpAny _ _ (fieldsOf (.ref it)>>=_) _ _ s
 refine wpAny_bind (wpAny_fieldsOf hit rfl ?_)
 show wpAny _ _ (setEntries a>>=_) _ _ s
 refine wpAny_bind (wpAny_setEntries_of ho hd T.fit ?_)
 rw[T.size]
 rw[if_neg (show ¬(((n:Nat):Int) != ((n:Nat):Int))=true by simp)]
 refine wpAny_bind (wpAny_seqItems htp hot ?_)
 dsimp only
 rw[zt5,hj]
 show wpAny _ _ (setField (.ref it) 0 (rawInt 0)>>=_) _ _ s
 refine wpAny_bind (wpAny_setField hit rfl (by simp) ?_)
 have h1:(s.heap.update it (Obj.mapFields (·.setIfInBounds 0 (rawInt 0)))).get? it=some (JB (rawInt 0) i a n ep):=Heap.get?_update_self (Obj.mapFields (·.setIfInBounds 0 (rawInt 0))) hit rfl
 show wpAny _ _ (setField (.ref it) 2 .none>>=_) _ _ _
 refine wpAny_bind (wpAny_setField h1 rfl (by simp) ?_)
 exact zeN (it:=it) (h0:=s.heap) hh hQ ((Heap.SameBut.update ..).trans (Heap.SameBut.update ..)).extBut
theorem U6 {Q:Bool->Shared->Prop}(h:Q (byT w) s):wpAny (model P w) A setsByText Q E s:=by
 unfold setsByText
 exact wpAny_bind (wpAny_askSetting (wpAny_pure h))
theorem zj0 {a:Addr}{S:Str->Bool}{n ep:Nat}{es:Array (Int×Value)}{t:SetTable}{Q:Value->Shared->Prop}(T:SetT P w s.heap a S n es ep t)(hz:n<=sizeLine)
  (h1:(byT w=true\/n<=1)->Q (.ref s.heap.objs.size) { s with heap:=s.heap.push (JB (rawInt 0) 0 a n ep) })
  (h2:∀(pl:List Nat) d,pl.Perm (List.range n)->byT w=false->2<=n->Q (.ref (s.heap.objs.size+1)) { s with heap:=(s.heap.push { cls:=.type "tuple", data:=.seq (pl.map fun(i:Nat)=>rawInt i).toArray }).push (JB (.ref s.heap.objs.size) 0 a n ep),drawn:=d }) :
  wpAny (model P w) A (pyIter (.ref a)) Q E s:=by
 obtain⟨o,ho,hx,hd⟩:=id T.at_
 have hT:s.TypeIs (.ref a) "set" := ⟨o,ho,hx.1⟩
 refine wpAny_pyIter_slot hT slot_set_iter (wpAny_call_entry slot_set_iter hT zaX ?_ (zbC _))
 show wpAny _ _ (Builtin.Frozenset.sizeOf a>>=_) _ _ s
 unfold Builtin.Frozenset.sizeOf
 refine wpAny_bind (wpAny_bind (wpAny_setEntries_of ho hd T.fit (wpAny_pure ?_)))
 rw[T.size]
 refine wpAny_bind ?_
 refine wpAny_bind (wpAny_setState_of ho hd T.fit ?_)
 dsimp only
 refine wpAny_bind (U6 (wpAny_pure ?_))
 show wpAny _ _ (if (!byT w&&(!t.plain&&decide (es.size > 1)))=true then _ else _) _ _ s
 have fin:∀(first:Value) {s':Shared},SetT P w s'.heap a S n es ep t->Q (.ref s'.heap.objs.size) { s' with heap:=s'.heap.push (JB first 0 a n ep) }->wpAny (model P w) A.in1 (do
   let __do_lift <-setEpoch a
   let __do_lift <-newFields "set_iterator" [first,rawInt 0,.ref a,rawInt (n:Int),rawInt (__do_lift:Int)]
   ret __do_lift) (fun fin s''=>∃v,fin=.done (.ret v)/\∃T' r,s''.TypeIs v T'/\typeLookup (.type T') "__next__"=pure (some r)/\Q v s'') E s':=fun first s' T' hq=>by
  obtain⟨o',ho',hx',hd'⟩:=T'.at_
  refine wpAny_bind (wpAny_setEpoch_of ho' hd' T'.fit ?_)
  exact wpAny_bind (wpAny_newObj_type (wpAny_pure ⟨_,rfl,"set_iterator", _,⟨_,ztN _ rfl,rfl⟩,yg.lookup,hq⟩))
 by_cases c:(!byT w&&(!t.plain&&decide (es.size > 1)))=true
 ·rw[if_pos c]
  have c1:byT w=false:=by cases h:byT w with | false=>rfl | true=>rw[h] at c;cases c
  have c2:2<=n:=by
   rw[ztU,ztU] at c
   have:=of_decide_eq_true c.2.2
   have:=T.size
   omega
  refine wpAny_bind (zcx n (List.range n) ztK fun pl d pm=>?_)
  have lp:pl.length=n:=by rw[pm.length_eq,ztK]
  refine wpAny_bind (wpAny_newObj_type ?_ (by show(pl.map fun(i:Nat)=>rawInt i).toArray.size<=sizeLine;simpa [lp] using hz))
  refine fin _ (s':={ s with heap:=s.heap.push { cls:=.type "tuple", data:=.seq (pl.map fun(i:Nat)=>rawInt i).toArray },drawn:=d }) (T.keep fun o e=>zty _ e) ?_
  have e:(s.heap.push { cls:=.type "tuple", data:=.seq (pl.map fun(i:Nat)=>rawInt i).toArray }).objs.size=s.heap.objs.size+1:=Heap.size_push ..
  have y:=h2 pl d pm c1 c2
  rw[<-e] at y
  exact y
 ·rw[if_neg c]
  refine wpAny_bind (wpAny_pure ?_)
  refine fin _ T (h1 ?_)
  cases hb:byT w with
  | true=>exact .inl rfl
  | false =>
   refine .inr ?_
   rcases Nat.lt_or_ge 1 n with z | z
   ·have pf:=T.plain (by omega)
    exact absurd (by rw[hb,pf,decide_eq_true (show es.size > 1 by have:=T.size;omega)];rfl) c
   ·exact z
theorem zcy {a:Addr}{S:Str->Bool}{n f i ep:Nat}{es:Array (Int×Value)}{t:SetTable}{Q:Option (Value×Nat)->Shared->Prop}(T:SetT P w s.heap a S n es ep t)(hb:byT w=true)(h:Q (((pickOrder (w.params.setOrder a ep) es)[i]?).map fun e=>(e.2,f)) s):wpAny (model P w) A (setNext a f i ep) Q E s:=by
 obtain⟨o,ho,hx,hd⟩:=id T.at_
 unfold setNext
 refine wpAny_bind (wpAny_setState_of ho hd T.fit ?_)
 dsimp only
 refine wpAny_bind (U6 ?_)
 rw[if_pos hb,if_neg (show ¬(ep != ep)=true by simp)]
 refine wpAny_bind ?_
 unfold setWalk
 refine wpAny_bind (wpAny_setState_of ho hd T.fit ?_)
 dsimp only
 refine wpAny_bind (U6 ?_)
 rw[if_pos hb]
 refine wpAny_bind (wpAny_askSetting (wpAny_pure ?_))
 exact wpAny_pure h
theorem zeO {a:Addr}{S:Str->Bool}{n f i ep:Nat}{es:Array (Int×Value)}{t:SetTable}{Q:Option (Value×Nat)->Shared->Prop}(T:SetT P w s.heap a S n es ep t)(hb:byT w=false)(h1:n<=1)(h:Q (match es[SetTable.below t.place f]?,t.place[SetTable.below t.place f]? with | some (_,x),some j=>some (x,j+1) | _,_=>none) s):wpAny (model P w) A (setNext a f i ep) Q E s:=by
 obtain⟨o,ho,hx,hd⟩:=id T.at_
 unfold setNext
 refine wpAny_bind (wpAny_setState_of ho hd T.fit ?_)
 dsimp only
 refine wpAny_bind (U6 ?_)
 rw[if_neg (by rw[hb];exact ztw)]
 show wpAny _ _ (if (!t.plain&&decide (es.size > 1))=true then _ else _) _ _ s
 have es1:decide (es.size > 1)=false:=decide_eq_false (by have:=T.size;omega)
 rw[es1,Bool.and_false,if_neg ztw]
 refine wpAny_bind ?_
 show wpAny _ _ (if (!t.led&&!es.isEmpty)=true then _ else _) _ _ s
 have ld:t.led=true:=by rw[T.led,hb];rfl
 rw[ld]
 rw[show(!true&&!es.isEmpty)=false from rfl,if_neg ztw]
 exact wpAny_pure (wpAny_pure h)
theorem Kq {I a:Addr}{first:Value}{i n ep:Nat}{Q:Value->Shared->Prop}(hit:s.heap.get? I=some (JB first i a n ep))(h:Q (.ref I) s):wpAny (model P w) A (pyIter (.ref I)) Q E s:=by
 have hT:s.TypeIs (.ref I) "set_iterator" := ⟨_,hit,rfl⟩
 refine wpAny_pyIter_slot hT Vd (wpAny_call_entry Vd hT PX ?_ (Mx _))
 show wpAny _ _ (ret (.ref I)) _ _ s
 exact wpAny_pure ⟨_,rfl,"set_iterator", _,hT,yg.lookup,h⟩
theorem zid {I a:Addr}{S:Str->Bool}{n ep:Nat}{es:Array (Int×Value)}{t:SetTable}(hh:A.handled=none)(hne:a≠I)(hb:byT w=true)(hn:es.size=n) :
  Walks P w A I [I,a] [I] n (fun i v=>((pickOrder (w.params.setOrder a ep) es).toList.map (·.2))[i]?=some v) (fun i h=>h.get? I=some (JB (rawInt 0) i a n ep)/\SetT P w h a S n es ep t) where
 sub:=fun b hb=>by simp at hb;simp[hb]
 frame:=fun _ _ _ st hk=>⟨hk I (by simp) _ st.1,st.2.keep fun o e=>hk a (by simp) o e⟩
 item:=fun i s Q E hi st hQ=>by
  have len:(pickOrder (w.params.setOrder a ep) es).size=n:=by rw[<-Array.length_toList,(Kp _ es).length_eq,Array.length_toList,hn]
  obtain⟨e,he⟩:∃e,(pickOrder (w.params.setOrder a ep) es)[i]?=some e:=⟨_,Array.getElem?_eq_getElem (by omega)⟩
  refine zeM (g:=0) (x:=e.2) st.2 st.1 (fun q=>zcy st.2 hb (by rw[he];exact q)) fun h' h1 sb=>?_
  refine hQ _ h' s.toks ?_ ⟨h1,st.2.keep fun o e=>sb.extBut a o hne e⟩ fun b o hb e=>sb.extBut b o (fun z=>hb (by simp[z])) e
  rw[ztu,Array.getElem?_toList,he]
  rfl
 done:=fun s Q E st hQ=>by
  have len:(pickOrder (w.params.setOrder a ep) es).size=n:=by rw[<-Array.length_toList,(Kp _ es).length_eq,Array.length_toList,hn]
  refine zhs hh st.2 st.1 (fun q=>zcy st.2 hb (by rw[Array.getElem?_eq_none (by omega)];exact q)) fun h' eb=>hQ h' s.toks fun b o hb e=>eb b o (fun z=>hb (by simp[z])) e
 self:=fun _ _ _ _ st hQ=>Kq st.1 hQ
theorem zge {I a tp:Addr}{S:Str->Bool}{n ep:Nat}{es:Array (Int×Value)}{t:SetTable}{pl:List Nat}(hh:A.handled=none)(hne:a≠I)(htn:tp≠I)(hn:es.size=n)(pm:pl.Perm (List.range n)) :
  Walks P w A I [I,a,tp] [I] n (fun i v=>(pl.map fun j=>((es[j]?).map (·.2)).getD .none)[i]?=some v) (fun i h=>h.get? I=some (JB (.ref tp) i a n ep)/\SetT P w h a S n es ep t/\h.get? tp=some { cls:=.type "tuple", data:=.seq (pl.map fun(i:Nat)=>rawInt i).toArray }) where
 sub:=fun b hb=>by simp at hb;simp[hb]
 frame:=fun _ _ _ st hk=>⟨hk I (by simp) _ st.1,st.2.1.keep fun o e=>hk a (by simp) o e,hk tp (by simp) _ st.2.2⟩
 item:=fun i s Q E hi st hQ=>by
  have len:pl.length=n:=by rw[pm.length_eq,ztK]
  obtain⟨j,hj⟩:∃j,pl[i]?=some j:=⟨_,ztt (by omega)⟩
  have jn:j<n:=List.mem_range.mp (pm.mem_iff.mp (ztx hj))
  obtain⟨e,he⟩:∃e,es[j]?=some e:=⟨_,Array.getElem?_eq_getElem (by omega)⟩
  refine zgd (j:=j) st.2.1 st.1 st.2.2 rfl (by rw[List.getElem?_toArray,ztu,hj];rfl) he fun h' h1 sb=>?_
  refine hQ _ h' s.toks ?_ ⟨h1,st.2.1.keep fun o e=>sb.extBut a o hne e,sb.extBut tp _ htn st.2.2⟩ fun b o hb e=>sb.extBut b o (fun z=>hb (by simp[z])) e
  rw[ztu,hj]
  show some (((es[j]?).map (·.2)).getD .none)=_
  rw[he]
  rfl
 done:=fun s Q E st hQ=>by
  have len:pl.length=n:=by rw[pm.length_eq,ztK]
  refine zic hh st.2.1 st.1 st.2.2 rfl (by rw[List.getElem?_toArray];exact zt2 (by rw[zts];omega)) fun h' eb=>hQ h' s.toks fun b o hb e=>eb b o (fun z=>hb (by simp[z])) e
 self:=fun _ _ _ _ st hQ=>Kq st.1 hQ
theorem zgf {xs:Array Nat}(h:xs.size<=1):SetTable.below xs 0=0:=by
 unfold SetTable.below
 rcases (by omega:xs.size=0\/xs.size=1) with e | e<;>rw[e]
 ·rfl
 ·unfold SetTable.below.go
  simp[SetTable.below.go]
theorem zgg {xs:Array Nat}{j:Nat}(h:xs.size=1)(e:xs[0]?=some j):SetTable.below xs (j+1)=1:=by
 unfold SetTable.below
 rw[h]
 unfold SetTable.below.go
 simp[SetTable.below.go,Array.getD_eq_getD_getElem?,e]
theorem zj1 {I a:Addr}{S:Str->Bool}{n ep:Nat}{es:Array (Int×Value)}{t:SetTable}(hh:A.handled=none)(hne:a≠I)(hb:byT w=false)(h1:n<=1)(hn:es.size=n)(hf:t.fits es.size=true) :
  Walks P w A I [I,a] [I] n (fun i v=>(es.toList.map (·.2))[i]?=some v) (fun i h=>(∃f:Nat,h.get? I=some (JB (rawInt f) i a n ep)/\SetTable.below t.place f=i)/\SetT P w h a S n es ep t) where
 sub:=fun b hb=>by simp at hb;simp[hb]
 frame:=fun _ _ _ st hk=>⟨let ⟨f,x,y⟩:=st.1;⟨f,hk I (by simp) _ x,y⟩,st.2.keep fun o e=>hk a (by simp) o e⟩
 item:=fun i s Q E hi st hQ=>by
  obtain⟨⟨f,st1,hbl⟩,st2⟩:=st
  have ei:i=0:=by omega
  subst ei
  have ps:t.place.size=1:=by
   have hf':=hf
   unfold SetTable.fits at hf'
   rw[ztU,beq_iff_eq] at hf'
   omega
  obtain⟨e,he⟩:∃e,es[0]?=some e:=⟨_,Array.getElem?_eq_getElem (by omega)⟩
  obtain⟨j,hj⟩:∃j,t.place[0]?=some j:=⟨_,Array.getElem?_eq_getElem (by omega)⟩
  refine zeM (g:=j+1) (x:=e.2) st2 st1 (fun q=>zeO st2 hb h1 (by rw[hbl,he,hj];exact q)) fun h' h1 sb=>?_
  refine hQ _ h' s.toks ?_ ⟨⟨j+1,h1,zgg ps hj⟩,st2.keep fun o e=>sb.extBut a o hne e⟩ fun b o hb e=>sb.extBut b o (fun z=>hb (by simp[z])) e
  rw[ztu,Array.getElem?_toList,he]
  rfl
 done:=fun s Q E st hQ=>by
  obtain⟨⟨f,st1,hbl⟩,st2⟩:=st
  refine zhs hh st2 st1 (fun q=>zeO st2 hb h1 (by rw[hbl,Array.getElem?_eq_none (by omega)];exact q)) fun h' eb=>hQ h' s.toks fun b o hb e=>eb b o (fun z=>hb (by simp[z])) e
 self:=fun _ _ _ _ st hQ=>let ⟨f,x,_⟩:=st.1;Kq x hQ
def Wk (P:Program)(w:World)(A:Around)(I:Addr)(n:Nat)(vs:List Value)(h:Heap)(lo:Nat)(a:Addr):Prop:=∃(fp:List Addr) (St:Nat->Heap->Prop),Walks P w A I fp [I] n (fun i v=>vs[i]?=some v) St/\St 0 h/\∀b∈fp,b=a\/lo<=b
theorem zie {B:Around}{a:Addr}{S:Str->Bool}{n ep:Nat}{es:Array (Int×Value)}{t:SetTable}{Q:Value->Shared->Prop}(T:SetT P w s.heap a S n es ep t)(hz:n<=sizeLine)(hh:A.handled=none)
  (q:∀I h d vs,(∀b o,s.heap.get? b=some o->h.get? b=some o)->vs.Perm (es.toList.map (·.2))->s.heap.objs.size<=I->Wk P w A I n vs h s.heap.objs.size a->Q (.ref I) { s with heap:=h,drawn:=d }) :
  wpAny (model P w) B (pyIter (.ref a)) Q E s:=by
 have la:a<s.heap.objs.size:=by
  obtain⟨o,ho,_⟩:=T.at_
  exact ztz ho
 refine zj0 T hz (fun c=>?_) fun pl d pm c1 c2=>?_
 ·have k:∀b o,s.heap.get? b=some o->(s.heap.push (JB (rawInt 0) 0 a n ep)).get? b=some o:=fun b o e=>zty _ e
  have gI:(s.heap.push (JB (rawInt 0) 0 a n ep)).get? s.heap.objs.size=some (JB (rawInt 0) 0 a n ep):=ztN _ rfl
  have T':=T.keep (h':=s.heap.push (JB (rawInt 0) 0 a n ep)) fun o e=>k a o e
  have near:∀b∈[s.heap.objs.size,a],b=a\/s.heap.objs.size<=b:=fun b hb=>by
   rcases List.mem_cons.mp hb with z | z
   ·exact .inr (Nat.le_of_eq z.symm)
   ·exact .inl (List.mem_singleton.mp z)
  cases hb:byT w with
  | true=>exact q s.heap.objs.size (s.heap.push (JB (rawInt 0) 0 a n ep)) s.drawn _ k ((Kp (w.params.setOrder a ep) es).map _) (ztI _) ⟨_,_,zid hh (ztH la) hb T.size,⟨gI,T'⟩,near⟩
  | false =>
   have h1:n<=1:=c.elim (fun z=>by rw[hb] at z;cases z) id
   have ps:t.place.size<=1:=by
    have hf':=T.fit
    unfold SetTable.fits at hf'
    rw[ztU,beq_iff_eq] at hf'
    have:=T.size
    omega
   exact q s.heap.objs.size (s.heap.push (JB (rawInt 0) 0 a n ep)) s.drawn _ k (.refl _) (ztI _) ⟨_,_,zj1 hh (ztH la) hb h1 T.size T.fit,⟨⟨0,gI,zgf ps⟩,T'⟩,near⟩
 ·have e1:(s.heap.push { cls:=.type "tuple", data:=.seq (pl.map fun(i:Nat)=>rawInt i).toArray }).objs.size=s.heap.objs.size+1:=Heap.size_push ..
  have k:∀b o,s.heap.get? b=some o->((s.heap.push { cls:=.type "tuple", data:=.seq (pl.map fun(i:Nat)=>rawInt i).toArray }).push (JB (.ref s.heap.objs.size) 0 a n ep)).get? b=some o:=fun b o e=>zty _ (zty _ e)
  have gI:((s.heap.push { cls:=.type "tuple", data:=.seq (pl.map fun(i:Nat)=>rawInt i).toArray }).push (JB (.ref s.heap.objs.size) 0 a n ep)).get? (s.heap.objs.size+1)=some (JB (.ref s.heap.objs.size) 0 a n ep):=by
   rw[<-e1]
   exact ztN _ rfl
  have gt:((s.heap.push { cls:=.type "tuple", data:=.seq (pl.map fun(i:Nat)=>rawInt i).toArray }).push (JB (.ref s.heap.objs.size) 0 a n ep)).get? s.heap.objs.size=some { cls:=.type "tuple", data:=.seq (pl.map fun(i:Nat)=>rawInt i).toArray }:=zty _ (ztN _ rfl)
  refine q (s.heap.objs.size+1) _ d (pl.map fun j=>((es[j]?).map (·.2)).getD .none) k ?_ (Nat.le_succ _) ⟨_,_,zge (tp:=s.heap.objs.size) hh (ztH (Nat.lt_succ_of_lt la)) (ztH (Nat.lt_succ_self _)) T.size pm,⟨gI,T.keep fun o e=>k a o e,gt⟩,fun b hb=>?_⟩
  ·refine(pm.map _).trans ?_
   refine List.Perm.of_eq ?_
   refine List.ext_getElem? fun i=>?_
   have this:=T.size
   have er:(es.toList.map (·.2))[i]?=(es[i]?).map (·.2):=by rw[ztu,Array.getElem?_toList]
   rw[er,ztu]
   by_cases hi:i<n
   ·rw[List.getElem?_range hi,Array.getElem?_eq_getElem (by omega)]
    show some (((es[i]?).map (·.2)).getD .none)=_
    rw[Array.getElem?_eq_getElem (by omega)]
    rfl
   ·rw[zt2 (by simp;omega),Array.getElem?_eq_none (by omega)]
    rfl
  ·rcases List.mem_cons.mp hb with z | z
   ·right;rw[z];exact Nat.le_succ _
   ·rcases List.mem_cons.mp z with z | z
    ·exact .inl z
    ·right;rw[List.mem_singleton.mp z];exact ztI _
theorem zj2 {a:Addr}{Q:Bool->Shared->Prop}(hT:s.TypeIs (.ref a) "set")(h:Q false s):wpAny (model P w) A (Builtin.List.listLengthHint (.ref a)) Q E s:=by
 unfold Builtin.List.listLengthHint
 refine wpAny_bind (wpAny_specialOf hT PySem.F.slot_set_len.lookup ?_)
 generalize hid:("set.__len__" : String)=id0
 wp_delta
 rw[show splitId id0=some ("set", "__len__") from by subst hid;decide +kernel]
 subst hid
 refine wpAny_bind (wpAny_isInstance (T := "set") (b:=true) hT (by rw[isSubtype_type];kernel_rfl) ?_)
 refine wpAny_ite_split (fun hab=>absurd hab (by decide)) (fun _=>?_)
 refine wpAny_ite_split (fun _=>?_) (fun hab=>absurd (by decide +kernel) hab)
 refine wpAny_bind (wpAny_typeOf hT ?_)
 exact wpAny_pure h
theorem zeP {a:Addr}{S:Str->Bool}{n ep:Nat}{es:Array (Int×Value)}{t:SetTable}{R:List Value->Shared->Prop}(T:SetT P w s.heap a S n es ep t)(hh:A.handled=none)(hz:n<=sizeLine)
  (h:∀(h':Heap) (d:Drawn) (tk:Nat) (vs:List Value),(∀b o,s.heap.get? b=some o->h'.get? b=some o)->vs.Perm (es.toList.map (·.2))->R vs { s with heap:=h',drawn:=d,toks:=tk }) :
  wpAny (model P w) A (collect (.ref a)) R E s:=by
 have la:a<s.heap.objs.size:=by
  obtain⟨o,ho,_⟩:=T.at_
  exact ztz ho
 unfold collect
 refine wpAny_bind (wpAny_runValue (codeAny_builtin entry_proto_collect' ?_))
 rw[Around.under_plainId PySem.F.plain_proto_collect _]
 show wpAny _ A.in1 (newList []>>=fun l=>again (.builtin "list.__iadd__" ⟨[l,.ref a],[]⟩)) _ _ s
 refine wpAny_bind (wpAny_newObj_type ?_)
 refine wpAny_pure ⟨plainId_quiet PySem.F.plain_list_iadd _,codeAny_builtin entry_list_iadd' ?_⟩
 rw[Around.under_plainId PySem.F.plain_list_iadd _]
 have gL:(s.heap.push { cls:=.type "list", data:=.seq ([]:List Value).toArray }).get? s.heap.objs.size=some { cls:=.type "list", data:=.seq #[] }:=ztN _ rfl
 have kL:∀b o,s.heap.get? b=some o->(s.heap.push { cls:=.type "list", data:=.seq ([]:List Value).toArray }).get? b=some o:=fun b o e=>zty _ e
 have sL:(s.heap.push { cls:=.type "list", data:=.seq ([]:List Value).toArray }).objs.size=s.heap.objs.size+1:=Heap.size_push ..
 have T1:=T.keep (h':=s.heap.push { cls:=.type "list", data:=.seq ([]:List Value).toArray }) fun o e=>kL a o e
 show wpAny _ A.in1 (Builtin.List.listExtendWith (.ref s.heap.objs.size) (.ref a) (.ref s.heap.objs.size)) _ _ _
 generalize s.heap.push { cls:=.type "list", data:=.seq ([]:List Value).toArray }=h1 at gL kL sL T1 ⊢
 obtain⟨o,ho,hx,hd⟩:=id T1.at_
 have hT:Shared.TypeIs { s with heap:=h1 } (.ref a) "set" := ⟨o,ho,hx.1⟩
 unfold Builtin.List.listExtendWith
 refine wpAny_bind (wpAny_typeOf (T := "set") hT ?_)
 have c1:Builtin.List.listSameRef (.ref s.heap.objs.size) (.ref a)=false:=by simp[Builtin.List.listSameRef,Nat.ne_of_gt la]
 have c2:(Value.type "set" == Value.type "list")=false:=by decide
 have c3:(Value.type "set" == Value.type "tuple")=false:=by decide
 simp only[c1,c2,c3,Bool.or_false,Bool.false_eq_true,if_false]
 refine wpAny_bind (zie (A:=A.in1) (s:={ s with heap:=h1 }) T1 hz (by simpa using hh) fun I h2 d vs k2 pm hI W=>?_)
 obtain⟨fp,St,W,st,near⟩:=W
 have nL:s.heap.objs.size∉fp:=fun m=>by
  rcases near _ m with z | z
  ·exact absurd z (Nat.ne_of_gt la)
  ·have z':h1.objs.size<=s.heap.objs.size:=z
   omega
 have lv:vs.length=n:=by rw[pm.length_eq,zts,Array.length_toList,T.size]
 have key:∀(h3:Heap) (c tk:Nat),St 0 h3->(∀b o,b≠s.heap.objs.size->h2.get? b=some o->h3.get? b=some o)->h3.get? s.heap.objs.size=some { cls:=.type "list", data:=.seq #[] c } ->
   ∀(R':Result->Shared->Prop),(∀h' tk' acc c',(∀b o,s.heap.get? b=some o->h'.get? b=some o)->h'.get? s.heap.objs.size=some { cls:=.type "list", dict:=none,data:=.seq acc c',slots:=#[] }->acc.toList=vs->R' (.ok (.ret (.ref s.heap.objs.size))) { s with heap:=h',drawn:=d,toks:=tk' }) ->
   codeAny (model P w) A (.builtin "list.extend.loop" ⟨[.ref s.heap.objs.size,.ref I,.ref s.heap.objs.size],[]⟩) R' { s with heap:=h3,drawn:=d,toks:=tk }:=fun h3 c tk st3 k3 g3 R' hR=>by
  refine codeAny_extend_loopS W.toS hz s.heap.objs.size nL _ n 0 _ #[] c rfl (ztP _) st3 g3 (ItemsOf.nil _) fun s' acc c' hm hS' hacc=>?_
  rw[Moved.eq_with hm]
  refine hR s'.heap s'.toks acc c' (fun b o e=>?_) hS' ?_
  ·have nb:b≠s.heap.objs.size:=ztH (ztz e)
   refine hm.heap b o (fun hmem=>?_) (k3 b o nb (k2 b o (kL b o e)))
   rcases List.mem_cons.mp hmem with z | z
   ·exact nb z
   ·have z':=List.mem_singleton.mp z
    have l1:=ztz e
    have l2:h1.objs.size<=I:=hI
    have l3:b<h1.objs.size:=by rw[sL];exact Nat.lt_succ_of_lt l1
    rw[z'] at l3
    exact absurd (ztB l3 l2) (Nat.lt_irrefl _)
  ·refine List.ext_getElem? fun i=>?_
   have sz:=hacc.1
   rw[Array.getElem?_toList]
   by_cases hi:i<n
   ·rw[Array.getElem?_eq_getElem (by omega)]
    exact(hacc.2 i _ (Array.getElem?_eq_getElem (by omega))).symm
   ·rw[Array.getElem?_eq_none (by omega),zt2 (by omega)]
 refine wpAny_bind (wpAny_holding (zj2 (s:={ s with heap:=h2,drawn:=d }) ⟨o,k2 a o ho,hx.1⟩ ?_))
 have g2:=k2 _ _ gL
 have last:∀h' tk' (acc:Array Value) c',(∀b o,s.heap.get? b=some o->h'.get? b=some o)->h'.get? s.heap.objs.size=some { cls:=.type "list", dict:=none,data:=.seq acc c',slots:=#[] }->acc.toList=vs->wpAny (model P w) A (load s.heap.objs.size>>=fun o=>match o.data with | .seq items _=>pure items.toList | _=>unsupported "internal:collect") R E { s with heap:=h',drawn:=d,toks:=tk' }:=fun h' tk' acc c' kk hS' ea=>by
  refine wpAny_bind (wpAny_load hS' ?_)
  show wpAny _ _ (pure acc.toList) _ _ _
  rw[ea]
  exact wpAny_pure (h h' d tk' vs kk pm)
 refine wpAny_ite_split (fun _=>?_) (fun _=>wpAny_pure ⟨plainId_quiet PySem.F.plain_extend_loop _,key h2 _ _ st (fun b o _ e=>e) g2 _ fun h' tk' acc c' kk hS' ea=>?_⟩)
 ·refine wpAny_bind (wpAny_rule ?_)
  refine wpAny_bind ?_
  show wpAny _ _ (updateSeq s.heap.objs.size (·.push .none)>>=fun _=>updateSeq s.heap.objs.size (·.pop)) _ _ _
  refine wpAny_bind (wpAny_updateSeq g2 rfl ?_)
  have g3:=Heap.get?_update_self (Obj.mapSeq (·.push Value.none)) g2 rfl
  refine wpAny_updateSeq (hz:=by seq_fits) g3 rfl ?_
  have g4:=Heap.get?_update_self (Obj.mapSeq (·.pop)) g3 rfl
  have oth:∀b o,b≠s.heap.objs.size->h2.get? b=some o->((h2.update s.heap.objs.size (Obj.mapSeq (·.push Value.none))).update s.heap.objs.size (Obj.mapSeq (·.pop))).get? b=some o:=fun b o nb e=>(Heap.get?_update_other _ _ (Ne.symm nb)).trans ((Heap.get?_update_other _ _ (Ne.symm nb)).trans e)
  refine wpAny_pure ⟨plainId_quiet PySem.F.plain_extend_loop _,key _ _ _ (W.frame 0 _ _ st fun b hb o e=>oth b o (fun z=>nL (z ▸ hb)) e) oth g4 _ fun h' tk' acc c' kk hS' ea=>?_⟩
  exact last h' tk' acc c' kk hS' ea
 ·exact last h' tk' acc c' kk hS' ea
end
theorem zod (xs:List Str):(dd xs).Nodup:=by
 suffices h:∀acc:List Str,acc.Nodup->(xs.foldl met acc).Nodup from h [] List.nodup_nil
 induction xs with
 | nil=>exact fun acc h=>h
 | cons x r ih =>
  intro acc h
  refine ih _ ?_
  unfold met
  split
  ·exact h
  ·rename_i c
   refine List.nodup_append.mpr ⟨h,by simp,fun a ha b hb e=>c ?_⟩
   have eb:b=x:=by simpa using hb
   rw[List.any_eq_true]
   exact⟨a,ha,by rw[e,eb];simp⟩
theorem zmW {xs:List Str}{k:Str}:k∈dd xs↔k∈xs:=by
 have:=zmG xs k
 constructor
 ·intro h
  have h1:(dd xs).any (·==k)=true:=List.any_eq_true.mpr ⟨k,h,by simp⟩
  rw[this] at h1
  obtain⟨y,hy,e⟩:=List.any_eq_true.mp h1
  rw[<-eq_of_beq e];exact hy
 ·intro h
  have h1:xs.any (·==k)=true:=List.any_eq_true.mpr ⟨k,h,by simp⟩
  rw[<-this] at h1
  obtain⟨y,hy,e⟩:=List.any_eq_true.mp h1
  rw[<-eq_of_beq e];exact hy
theorem zaZ {α:Type}[BEq α][LawfulBEq α]:∀{xs ys:List α},xs.Nodup->(∀x∈xs,x∈ys)->ys.length=xs.length->ys.Perm xs
 | [],ys,_,_,hl=>by rw[List.eq_nil_of_length_eq_zero hl]
 | x::xs,ys,nd,hs,hl=>by
  have hx:=hs x ztM
  obtain⟨n1,n2⟩:=List.nodup_cons.mp nd
  refine(List.perm_cons_erase hx).trans ?_
  refine(zaZ n2 (fun y hy=>?_) ?_).cons x
  ·exact(List.mem_erase_of_ne (fun e:y=x=>n1 (e ▸ hy))).mpr (hs y (ztD _ hy))
  ·rw[List.length_erase_of_mem hx,hl];rfl
def txt:Value->Str
 | .str k _=>k
 | _ => ""
section
variable {P:Program}{w:World}
theorem SetT.keys {h:Heap}{a:Addr}{ts:List Str}{n ep:Nat}{es:Array (Int×Value)}{t:SetTable}(T:SetT P w h a (fun q=>(dd ts).any (·==q)) n es ep t)(hn:n=(dd ts).length){vs:List Value}(pm:vs.Perm (es.toList.map (·.2))):StrsAre vs (vs.map txt)/\(vs.map txt).Perm (dd ts):=by
 have isS:∀v∈vs,∃k t,v=.str k t:=fun v hv=>by
  obtain⟨e,he,rfl⟩:=List.mem_map.mp (pm.mem_iff.mp hv)
  obtain⟨⟨k,hk,_⟩,_⟩:=T.el e he
  obtain⟨t,et⟩:=Value.isStrOf_shape hk
  exact⟨k,t,et⟩
 constructor
 ·clear pm
  induction vs with
  | nil=>exact .nil
  | cons v vs ih =>
   obtain⟨k,t,rfl⟩:=isS v ztM
   exact .cons _ _ (ih fun v hv=>isS v (ztD _ hv))
 ·refine zaZ (zod ts) (fun k hk=>?_) ?_
  ·obtain⟨e,he,hp⟩:=(T.mem k).mp (List.any_eq_true.mpr ⟨k,hk,by simp⟩)
   obtain⟨t,et⟩:=Value.isStrOf_shape hp
   refine List.mem_map.mpr ⟨e.2,pm.mem_iff.mpr (List.mem_map.mpr ⟨e,he,rfl⟩),?_⟩
   rw[et];rfl
  ·rw[zts,pm.length_eq,zts,Array.length_toList,T.size,hn]
end
section
variable {P:Program}{w:World}{A:Around}{E:Value->Shared->Prop}{s:Shared}
theorem zeQ {a:Addr}{vs:List Value}{ns:List Str}{n:Nat}{Q:PySem.Fin->Shared->Prop}(ho:s.heap.get? a=some (seqObj "list" vs.toArray n))(hI:StrsAre vs ns)(hz:vs.length<64)
  (h:∀(out:Array Value) (ms:List Str),StrsAre out.toList ms->ms.Perm ns->sortedS ms=true->Q (.done (.ret .none)) { s with heap:=sortedHeap s.heap a vs out }):wpAny (model P w) A (Builtin.«list.sort» ⟨[.ref a],[]⟩) Q E s:=by
 refine list_sort_treeK strKind_oneLt ho hI.keysOf (fun v₁ v₂ rest e=>keyKind_strs (by rw[<-e];exact hI)) hz fun st' hp hs=>?_
 obtain⟨ms,h1,h2,h3⟩:=sorted_out_str hI hp hs
 exact h _ ms h1 h2 h3
end
section
variable {X:Cx}
theorem Inv.draws {pins:List (Addr×Obj)}{σ:List (Option V)}{H:Hp}{s:Shared}{d:Drawn}(I:Inv X pins σ H s):Inv X pins σ H { s with drawn:=d }:=⟨I.ok,I.os,I.bare,I.base,I.loc,I.cell,I.free,I.Tz,I.pin,I.hok,I.len⟩
def zif (P:Program)(w:World)(a:Addr)(ts:List Str):HO:=.ext fun h=>uX P w h a (fun q=>(dd ts).any (·==q)) (dd ts).length
theorem zig (hc:X.calm=true):uW X (.type "set") (fun xs H Q=>∃(p:Addr) (ts:List Str),xs=[.ref p]/\zP X.K H p (ts.map V.str)/\ts.length<=1000/\∀q,H q=none->Q (.ref q) (upd H q (zif X.prog X.w q ts))):=by
 intro pins s σ H xs us Q I r h
 obtain⟨p,ts,rfl,hq,h100,q⟩:=h
 obtain⟨u,rfl,rx⟩:=vals1 r
 cases rx
 obtain⟨its,r',pl,hz⟩:=I.list hq
 refine zib (I.ok.hd hc) pl.isList r' (Nat.lt_of_le_of_lt (Nat.add_le_add_right h100 1) (by decide)) fun h' tk hS hk=>?_
 refine⟨.ref s.heap.objs.size,_,I.laid hk (ztI _) (o:=zif X.prog X.w s.heap.objs.size ts) ?_,rfl,q _ (I.hok.fresh (ztI _))⟩
 refine⟨hS,?_,?_⟩
 ·obtain⟨es,ep,t,T⟩:=hS
  obtain⟨o,ho,_⟩:=T.at_
  exact⟨o,ho⟩
 ·intro h1 h2 z k
  exact z.keep fun o e=>k o e
theorem Mz (hc:X.calm=true):uW X (.builtin "sorted") (fun xs H Q=>∃(p:Addr) (ts:List Str),xs=[.ref p]/\H p=some (zif X.prog X.w p ts)/\ts.length<64/\∀(l:Addr) (ms:List Str),H l=none->ms.Perm (dd ts)->sortedS ms=true->Q (.ref l) (upd H l (.lst (ms.map V.str)))):=by
 intro pins s σ H xs us Q I r h
 obtain⟨p,ts,rfl,hp,zoe,q⟩:=h
 obtain⟨u,rfl,rx⟩:=vals1 r
 cases rx
 obtain⟨⟨es,ep,t,T⟩,_⟩:=(show uX X.prog X.w s.heap p (fun q=>(dd ts).any (·==q)) (dd ts).length/\_ from I.hok p _ hp)
 have ld:=ziV ts
 refine Calls.call_function_entry kind_sorted plain_sorted entry_sorted (args_sorted1 _) ?_
 unfold Builtin.«sorted»
 refine wpAny_bind (m:=checkCount "sorted" 1 1 _) (wpAny_pure ?_)
 refine wpAny_bind (zeP T (I.ok.hd hc) (ztL (zN (by omega))) fun h' d tk vs hk pm=>?_)
 obtain⟨hS,pk⟩:=T.keys rfl pm
 have lv:vs.length=(dd ts).length:=by have:=pk.length_eq;rw[zts] at this;exact this
 have hoL:(h'.push (seqObj "list" vs.toArray 0)).get? h'.objs.size=some (seqObj "list" vs.toArray 0):=ztN _ rfl
 refine wpAny_bind (wpAny_newList ?_ (hsz:=by rw[lv];exact ztL (zN (by omega))))
 show wpAny _ _ _ _ _ { s with heap:=h'.push (seqObj "list" vs.toArray 0),drawn:=d,toks:=tk }
 refine wpAny_bind (wpAny_holding (wpAny_call_entry slot_list_sort ⟨_,hoL,rfl⟩ entry_list_sort (zeQ hoL hS (by omega) fun out ms a1 a2 a3=>⟨_,rfl,?_⟩) (args_list_sort _)))
 refine wpAny_pure ⟨_,rfl,?_⟩
 have I1:Inv X pins σ H { s with heap:=h',drawn:=d,toks:=tk }:=(I.kept (t':=tk) hk).draws
 obtain⟨e,he⟩:=sortedHeap_at (vs:=vs) (out:=out) hoL
 have hf:H h'.objs.size=none:=I1.hok.fresh (ztI _)
 have hlm:=(a2.trans pk).length_eq
 have s64:=zN (n:=ms.length) (by omega)
 refine⟨.ref h'.objs.size,_,I1.laid (t':=tk) (o:=.lst (ms.map V.str)) (fun b o e=>?_) (ztI _) ?_,rfl,q _ ms hf (a2.trans pk) a3⟩
 ·have lb:=ztz e
  rw[sortedHeap_old (ztH lb) (by rw[size_push'];exact Nat.lt_succ_of_lt lb)]
  exact zty _ e
 ·refine⟨by rw[zts];exact ztL s64,out.toList,e,zco a1,?_⟩
  simpa using he
end
end L2
namespace yU
open PySem L2 yF PyProof.Rows
theorem zmX {ks:List Cb}(u:ks.Pairwise ltC):(ks.map cbS).Nodup:=List.pairwise_map.mpr (u.imp fun h e=>PL h (Mt e))
theorem zls {ks:List Cb}{ms:List Str}(u:ks.Pairwise ltC)(p:ms.Perm (dd (ks.map cbS)))(s:sortedS ms=true):ms=ks.map cbS:=by
 have nd:=zmX u
 have pd:(dd (ks.map cbS)).Perm (ks.map cbS):=zaZ nd (fun x hx=>zmW.mpr hx) (zef nd)
 exact zcu (p.trans pd) s u
section
open Classical
noncomputable def zmY (n:Nat) (ks:List Cb) (c:Cb):List Cb:=if ∃b,b<2^n/\Own ks c b then ks else ks.filter fun d=>decide (d≠c)
end
structure zj3 (n:Nat)(f:Nat->Bool)(ks:List Cb)(rows:List (List Bool)):Prop where
 by_:∃qs,T7 n 0 f qs/\ks=qs.foldl (zmY n) qs
 len:rows.length=ks.length
 row:∀(j:Nat) c r,ks[j]?=some c->rows[j]?=some r->((allR n).filter fun r=>yR c (zu r)&&decide (QK (ks.map yR) (zu r)=1)).head?=some r
theorem zj3.uniq {n:Nat}{f:Nat->Bool}{ks ks':List Cb}{rows rows':List (List Bool)}(h:zj3 n f ks rows)(h':zj3 n f ks' rows'):ks=ks'/\rows=rows':=by
 obtain⟨qs,p,rfl⟩:=h.by_
 obtain⟨qs',p',rfl⟩:=h'.by_
 obtain rfl:=p.uniq p'
 refine⟨rfl,List.ext_getElem? fun j=>?_⟩
 have l1:=h.len
 have l2:=h'.len
 by_cases hj:j<rows.length
 ·have e1:=ztt (l:=qs.foldl (zmY n) qs) (i:=j) (by omega)
  have e2:=ztt hj
  have e3:=ztt (l:=rows') (i:=j) (by omega)
  have a:=h.row j _ _ e1 e2
  have b:=h'.row j _ _ e1 e3
  rw[a] at b
  rw[e2,e3,ztX b]
 ·rw[zt2 (by omega),zt2 (by omega)]
theorem zeR {n:Nat}{f:Nat->Bool}{ks:List Cb}{rows:List (List Bool)}(h:Cov n f ks rows):zaS n f ks=true:=by
 refine zaT.mpr fun b hb=>?_
 rw[zt8,<-h.cov b hb,List.any_eq_true]
theorem zcz {n:Nat}{f:Nat->Bool}{ks:List Cb}{rows:List (List Bool)}(h:Cov n f ks rows):Mv n f ks (rows.map Xc)=true:=by
 have nd:ks.Nodup:=h.up.imp PL
 unfold Mv
 rw[ztU,ztU,ztU]
 refine⟨zeR h,decide_eq_true (by rw[zts,h.len]),ztW.mpr fun c hc=>(h.mem c hc).2,ztW.mpr fun i hi=>?_⟩
 have hi:=List.mem_range.mp hi
 obtain⟨c,hc⟩:∃c,ks[i]?=some c:=⟨_,ztt hi⟩
 obtain⟨r,hr⟩:∃r,rows[i]?=some r:=⟨_,ztt (by rw[h.len];exact hi)⟩
 obtain⟨lr,o⟩:=h.own i c r hc hr
 have mc:=ztx hc
 have e1:ks.getD i []=c:=by rw[ztF,hc];rfl
 have e2:(rows.map Xc).getD i []=Xc r:=by rw[ztF,ztu,hr];rfl
 rw[e1,e2]
 unfold shw
 rw[zh8 lr,zh7,o.1,decide_eq_true ((own_one nd mc o.1).mpr o)]
 rfl
theorem zgh {n p:Nat}{f:Nat->Bool}{c:Cb}(lc:c.length=n)(h:yj n f c=true)(hp:p<n)(fr:∀b v,f (zM b p v)=f b){v:Bool}:c[p]?≠some (some v):=fun e=>by
 have h':yj n f (ext 0 c)=true:=h
 have z:=(yw.mp h').2 p v e
 have y:inB n f (c.set p none)=true:=uf.mpr fun b hb cb=>by
  have hin:=uf.mp (yw.mp h').1 (zM b p v) (zT hb hp) (Zb.mpr fun j u ej=>by
   rw[zQ]
   have ej:c[j]?=some (some u):=ej
   by_cases z:j=p
   ·rw[if_pos z]
    rw[z,e] at ej
    exact ztX (ztX ej)
   ·rw[if_neg z]
    exact Zb.mp cb j u (by rw[List.getElem?_set_ne (Ne.symm z)];exact ej))
  rw[fr] at hin
  exact hin
 rw[show inB n f (ext 0 (c.set p none))=inB n f (c.set p none) from rfl,y] at z
 cases z
theorem zlt {n:Nat}{f:Nat->Bool}{ks:List Cb}{rows:List (List Bool)}(h:Cov n f ks rows){PI:List Nat}(fr:∀p,p<n->p∉PI->∀b v,f (zM b p v)=f b):ks.length<=2^PI.length:=by
 have nd:ks.Nodup:=h.up.imp PL
 have hl:=h.len
 have same:∀c∈ks,∀b b':Nat,(∀p∈PI,b.testBit p=b'.testBit p)->yR c b=true->yR c b'=true:=fun c hc b b' e cb=>Zb.mpr fun j u ej=>by
  have hj:j<n:=by rw[<-(h.mem c hc).1];exact(ztv.mp ej).1
  by_cases m:j∈PI
  ·rw[<-e j m];exact Zb.mp cb j u ej
  ·exact absurd ej (zgh (h.mem c hc).1 (h.mem c hc).2 hj (fr j hj m))
 have ndr:(rows.map fun r=>PI.map fun p=>(zu r).testBit p).Nodup:=by
  rw[List.Nodup,List.pairwise_iff_getElem]
  intro i j hi hj hij e
  rw[zts] at hi hj
  rw[List.getElem_map,List.getElem_map] at e
  have ci:=ztt (l:=ks) (i:=i) (by omega)
  have cj:=ztt (l:=ks) (i:=j) (by omega)
  have oi:=(h.own i _ _ ci (ztt hi)).2
  have oj:=(h.own j _ _ cj (ztt hj)).2
  have ne:ks[i]≠ks[j]:=(List.pairwise_iff_getElem.mp nd) i j (by omega) (by omega) hij
  have x:=oj.2 ks[i] (zt9 _) ne
  rw[same ks[i] (zt9 _) _ _ (fun p hp=>List.map_inj_left.mp e p hp) oi.1] at x
  cases x
 have:=sub_len (ys:=allR PI.length) ndr fun x hx=>by
  obtain⟨r,hr,rfl⟩:=List.mem_map.mp hx
  have e:(PI.map fun p=>(zu r).testBit p)=(List.range PI.length).map fun i=>(zu r).testBit (PI.getD i 0):=by
   refine List.ext_getElem? fun i=>?_
   rw[ztu,ztu]
   by_cases hi:i<PI.length
   ·rw[List.getElem?_range hi,ztt hi]
    show some _=some ((zu r).testBit (PI.getD i 0))
    rw[ztF,ztt hi]
    rfl
   ·rw[zt2 (by omega),zt2 (by rw[ztK];omega)]
    rfl
  rw[e]
  exact Vu _ _
 rw[zts,XS] at this
 omega
theorem zj4 {os:List Str}{s:Sn}{P:List Str}(h:∀x∈s.sup,x∈P):∀p,p<os.length->p∉P.map (ix os)->∀b v,s.val (xG os (zM b p v))=s.val (xG os b):=fun p _ np b v=>Sn.Qq s fun x hx=>by
 show(zM b p v).testBit (ix os x)=b.testBit (ix os x)
 rw[zQ,if_neg fun e=>np (List.mem_map.mpr ⟨x,h x hx,e⟩)]
inductive za0 (C:Addr)(vs:List V)(H:Hp)(Q:VK)(E9:XK):Prop
 | mk (b:Addr) (os:List Str) (rs:List Rm) (F:ZK) (k:Nat) (_:vs=[.ref b,.int (k:Nat)]) (_:yP C H b os rs F) (_:k<rs.length) (_:∀(t cl rl:Addr) (ks:List Cb) (ps:List Addr) (rows:List (List Bool)) (H':Hp),Same H H'->H t=none->H cl=none->H rl=none->cl≠rl->H' t=some (.tup [.ref cl,.ref rl])->H' cl=some (.lst (ks.map cbV))->H' rl=some (.lst (ps.map V.ref))->Paired (fun p r=>H p=none/\p≠cl/\p≠rl/\H' p=some (.lst (zX r))) ps rows->ps.Nodup->Cov os.length (tB rs k) ks rows->zj3 os.length (tB rs k) ks rows->Q (.ref t) H'):za0 C vs H Q E9
end yU
namespace K63
open PySem L2
def top (i:Nat):Stmt:=PySem.Challenge.pw_decidebook_k63_covers_told.main.body.getD i (.Pass ⟨0,0,0,0⟩)
abbrev za1:Stmt:=top 9
abbrev wK:List Str:=["marks"]
theorem zeS:zK ["marks"] wK (zq za1):=fsc (by decide +kernel)
abbrev Ji:Stmt:=top 10
abbrev wu:List Str:=["place", "marks"]
theorem ZP:zK ["place", "marks", "half", "table", "further"] wu (zq Ji):=fsc (by decide +kernel)
abbrev zcA:Stmt:=top 11
abbrev Yq:List Str:=["table", "place", "marks"]
theorem P0:zK ["table", "place", "marks", "ones", "noughts"] Yq (zq zcA):=fsc (by decide +kernel)
abbrev za2:Stmt:=top 12
abbrev Wo:List Str:=["table", "row"]
theorem Xd:zK ["table", "row", "bit", "place", "value"] Wo (zq za2):=fsc (by decide +kernel)
abbrev zcB:Stmt:=top 13
abbrev Zu:List Str:=["table", "place", "value", "marks"]
theorem Nb:zK ["table", "place", "value", "marks", "ones", "kept"] Zu (zq zcB):=fsc (by decide +kernel)
abbrev za3:Stmt:=top 14
abbrev U7:List Str:=["table", "place", "marks"]
theorem zeT:zK ["table", "place", "marks"] U7 (zq za3):=fsc (by decide +kernel)
abbrev QV:Stmt:=top 15
abbrev tE:List Str:=["table", "marks"]
theorem Wq:zK ["table", "marks", "place"] tE (zq QV):=fsc (by decide +kernel)
abbrev zcC:Stmt:=top 16
abbrev Yr:List Str:=["table", "other"]
theorem zgi:zK ["table", "other"] Yr (zq zcC):=fsc (by decide +kernel)
abbrev QW:Stmt:=top 17
abbrev YF:List Str:=["places", "values", "marks"]
theorem wZ:zK ["places", "values", "marks", "table", "place", "value", "ones"] YF (zq QW):=fsc (by decide +kernel)
abbrev Rk:Stmt:=top 18
abbrev ZQ:List Str:=["table", "places", "marks"]
theorem xY:zK ["table", "places", "marks", "values", "place", "low", "value"] ZQ (zq Rk):=fsc (by decide +kernel)
abbrev Jj:Stmt:=top 19
abbrev Ve:List Str:=["table", "marks"]
theorem zdA:zK ["table", "marks"] Ve (zq Jj):=fsc (by decide +kernel)
abbrev zcD:Stmt:=top 25
abbrev X3:List Str:=["letter"]
theorem zgj:zK ["letter"] X3 (zq zcD):=fsc (by decide +kernel)
abbrev Nf:Stmt:=top 26
abbrev U8:List Str:=["order"]
theorem zeU:zK ["order"] U8 (zq Nf):=fsc (by decide +kernel)
abbrev za4:Stmt:=top 27
abbrev Rn:List Str:=["order", "row"]
theorem zih:zK ["order", "row"] Rn (zq za4):=fsc (by decide +kernel)
abbrev MF:Stmt:=top 28
abbrev uM:List Str:=["sentence"]
theorem zbD:zK ["sentence"] uM (zq MF):=fsc (by decide +kernel)
abbrev za5:Stmt:=top 29
abbrev uE:List Str:=["sentence"]
theorem zeV:zK ["sentence"] uE (zq za5):=fsc (by decide +kernel)
abbrev Ro:Stmt:=top 30
abbrev uF:List Str:=["level"]
theorem Xj:zK ["level", "found", "sentence"] uF (zq Ro):=fsc (by decide +kernel)
abbrev Vf:Stmt:=top 31
abbrev Vg:List Str:=["some"]
theorem MJ:zK ["some", "shape"] Vg (zq Vf):=fsc (by decide +kernel)
abbrev Vv:Stmt:=top 32
abbrev YG:List Str:=["some"]
theorem xV:zK ["some", "level", "deep", "tuples"] YG (zq Vv):=fsc (by decide +kernel)
abbrev TF:Stmt:=top 33
abbrev Zc:List Str:=["order"]
theorem Kr:zK ["order"] Zc (zq TF):=fsc (by decide +kernel)
abbrev Wr:Stmt:=top 34
abbrev vJ:List Str:=["some"]
theorem QL:zK ["some"] vJ (zq Wr):=fsc (by decide +kernel)
abbrev V9:Stmt:=top 35
abbrev vd:List Str:=["order", "letter"]
theorem MK:zK ["order", "letter"] vd (zq V9):=fsc (by decide +kernel)
abbrev Vh:Stmt:=top 36
abbrev uh:List Str:=["order", "sentence"]
theorem Ws:zK ["order", "sentence", "letter"] uh (zq Vh):=fsc (by decide +kernel)
abbrev Jk:Stmt:=top 37
abbrev Vi:List Str:=["sentence"]
theorem XF:zK ["sentence", "found", "level"] Vi (zq Jk):=fsc (by decide +kernel)
abbrev MN:Stmt:=top 38
abbrev XH:List Str:=["sentence"]
theorem Vw:zK ["sentence", "found", "part"] XH (zq MN):=fsc (by decide +kernel)
abbrev Ng:Stmt:=top 39
abbrev Ys:List Str:=["sentence", "order"]
theorem Vj:zK ["sentence", "order", "word", "marks", "tables"] Ys (zq Ng):=fsc (by decide +kernel)
abbrev Rp:Stmt:=top 40
abbrev vf:List Str:=["word", "one", "other", "every"]
theorem JC:zK ["word", "one", "other", "every"] vf (zq Rp):=fsc (by decide +kernel)
abbrev Jl:Stmt:=inClass (top 42) 0
abbrev Vk:List Str:=["self", "order"]
theorem MP:zK ["self", "order", "marks"] Vk (zq Jl):=fsc (by decide +kernel)
abbrev M4:Stmt:=inClass (top 42) 1
abbrev wz:List Str:=["self"]
theorem zbE:zK ["self"] wz (zq M4):=fsc (by decide +kernel)
abbrev zeW:Stmt:=inClass (top 42) 2
abbrev zeX:List Str:=["self"]
abbrev M5:Stmt:=inClass (top 42) 3
abbrev XJ:List Str:=["self", "sentence"]
theorem zbF:zK ["self", "sentence"] XJ (zq M5):=fsc (by decide +kernel)
abbrev zeY:Stmt:=inClass (top 42) 4
abbrev zeZ:List Str:=["self", "number"]
abbrev Xu:Stmt:=inClass (top 42) 7
abbrev yx:List Str:=["self", "number"]
theorem Rq:zK ["self", "number"] yx (zq Xu):=fsc (by decide +kernel)
abbrev JD:Stmt:=inClass (top 42) 8
abbrev JF:List Str:=["self", "number"]
abbrev zdB:Stmt:=inClass (top 42) 9
abbrev zdC:List Str:=["self", "number", "value"]
abbrev TJ:Stmt:=inClass (top 42) 11
abbrev yZ:List Str:=["self", "number"]
theorem Ks:zK ["self", "number"] yZ (zq TJ):=fsc (by decide +kernel)
abbrev Ua:Stmt:=inClass (top 42) 12
abbrev xU:List Str:=["self", "table"]
theorem wA:zK ["self", "table", "marks", "place", "low", "high"] xU (zq Ua):=fsc (by decide +kernel)
abbrev Ku:Stmt:=top 45
abbrev Qw:List Str:=["book", "cube"]
theorem zgk:zK ["book", "cube"] Qw (zq Ku):=fsc (by decide +kernel)
abbrev Rr:Stmt:=top 46
abbrev uG:List Str:=["book", "cube"]
theorem JG:zK ["book", "cube"] uG (zq Rr):=fsc (by decide +kernel)
abbrev TQ:Stmt:=top 47
abbrev Zd:List Str:=["book", "cubes"]
theorem Ub:zK ["book", "cubes", "cube"] Zd (zq TQ):=fsc (by decide +kernel)
abbrev Uc:Stmt:=top 48
abbrev Yt:List Str:=["cube"]
theorem za6:zK ["cube", "places"] Yt (zq Uc):=fsc (by decide +kernel)
abbrev Jm:Stmt:=top 49
abbrev Vl:List Str:=["book", "room", "cube"]
theorem zdD:zK ["book", "room", "cube"] Vl (zq Jm):=fsc (by decide +kernel)
abbrev Nh:Stmt:=top 50
abbrev U9:List Str:=["book", "room", "cube"]
theorem ze0:zK ["book", "room", "cube"] U9 (zq Nh):=fsc (by decide +kernel)
abbrev Qx:Stmt:=top 51
abbrev Ud:List Str:=["cube"]
theorem zgl:zK ["cube"] Ud (zq Qx):=fsc (by decide +kernel)
abbrev ze1:Stmt:=top 52
abbrev M6:List Str:=["book", "room"]
theorem zii:zK ["book", "room"] M6 (zq ze1):=fsc (by decide +kernel)
abbrev wL:Stmt:=top 53
abbrev vV:List Str:=["table", "place", "marks"]
theorem vg:zK ["table", "place", "marks", "low", "high", "either", "noughts", "ones"] vV (zq wL):=fsc (by decide +kernel)
abbrev zdE:Stmt:=top 54
abbrev zae:List Str:=["book", "room"]
theorem Rt:zK ["book", "room", "kept", "cube", "own"] zae (zq zdE):=fsc (by decide +kernel)
abbrev QX:Stmt:=top 55
abbrev tG:List Str:=["tables"]
theorem vh:zK ["tables", "seen", "again", "table"] tG (zq QX):=fsc (by decide +kernel)
abbrev za7:Stmt:=top 56
abbrev Wt:List Str:=["book", "room", "cubes"]
theorem Vm:zK ["book", "room", "cubes", "covered", "cube"] Wt (zq za7):=fsc (by decide +kernel)
abbrev vW:Stmt:=top 57
abbrev YH:List Str:=["book", "room", "cubes", "rows"]
theorem Wu:zK ["book", "room", "cubes", "rows", "own", "order"] YH (zq vW):=fsc (by decide +kernel)
abbrev TV:Stmt:=top 59
abbrev yO:List Str:=["script", "k"]
theorem Ue:zK ["script", "k"] yO (zq TV):=fsc (by decide +kernel)
abbrev M7:Stmt:=top 60
abbrev uN:List Str:=["cell", "k", "bound"]
theorem vX:zK ["cell", "k", "bound", "stir", "left", "j"] uN (zq M7):=fsc (by decide +kernel)
abbrev QZ:Stmt:=top 61
abbrev YJ:List Str:=["cell", "limit"]
theorem Wv:zK ["cell", "limit", "found", "k"] YJ (zq QZ):=fsc (by decide +kernel)
abbrev vm:Stmt:=top 62
abbrev uO:List Str:=["script", "at", "many", "order"]
theorem yt:zK ["script", "at", "many", "order", "kinds", "made", "k", "cell", "kind", "one", "other", "letter"] uO (zq vm):=fsc (by decide +kernel)
abbrev M8:Stmt:=top 63
abbrev uP:List Str:=["size"]
theorem vY:zK ["size", "found", "k", "longer", "row"] uP (zq M8):=fsc (by decide +kernel)
abbrev Q5:Stmt:=top 64
abbrev vZ:List Str:=["sentence", "order", "row"]
theorem xW:zK ["sentence", "order", "row", "word", "one", "other", "at", "low", "high"] vZ (zq Q5):=fsc (by decide +kernel)
abbrev Q6:Stmt:=top 65
abbrev tH:List Str:=["found"]
theorem za8:zK ["found"] tH (zq Q6):=fsc (by decide +kernel)
abbrev Xk:Stmt:=top 66
abbrev Ze:List Str:=["found", "due"]
theorem Kv:zK ["found", "due"] Ze (zq Xk):=fsc (by decide +kernel)
abbrev Ru:Stmt:=top 67
abbrev Vn:List Str:=["sentence", "order"]
theorem zdF:zK ["sentence", "order"] Vn (zq Ru):=fsc (by decide +kernel)
abbrev ZR:Stmt:=top 68
abbrev wB:List Str:=["cube"]
theorem yS:zK ["cube", "found", "sign", "longer", "row"] wB (zq ZR):=fsc (by decide +kernel)
abbrev Ww:Stmt:=top 69
abbrev ZS:List Str:=["cube", "yes"]
theorem JH:zK ["cube", "yes"] ZS (zq Ww):=fsc (by decide +kernel)
abbrev Q7:Stmt:=top 70
abbrev YK:List Str:=["cube", "yes"]
theorem Rv:zK ["cube", "yes", "at"] YK (zq Q7):=fsc (by decide +kernel)
abbrev Rw:Stmt:=top 71
abbrev Zv:List Str:=["cube", "row"]
theorem zdG:zK ["cube", "row"] Zv (zq Rw):=fsc (by decide +kernel)
abbrev Wx:Stmt:=top 72
abbrev ZV:List Str:=["cubes", "yes", "size"]
theorem TX:zK ["cubes", "yes", "size", "row"] ZV (zq Wx):=fsc (by decide +kernel)
abbrev YL:Stmt:=top 73
abbrev YM:List Str:=["cubes", "rows", "yes", "size"]
theorem Rx:zK ["cubes", "rows", "yes", "size", "k"] YM (zq YL):=fsc (by decide +kernel)
abbrev S_law:Stmt:=top 74
abbrev p_law:List Str:=["script"]
theorem sc_law:zK ["script", "order", "sentence", "book", "room", "yes", "kept", "turn", "found", "row", "cubes", "rows"] p_law (zq S_law):=fsc (by decide +kernel)
def yW:List (Str×Int×Int):=[("yes", 0,0),("no", 0,0),("mark", 1,0),("not", 0,1),("and", 0,2),("or", 0,2),("either", 0,2),("if", 0,2),("some", 1,1),("each", 1,1)]
set_option genInjectivity false in
set_option genSizeOf false in
structure Ad where
 vK:Addr
 vL:FuncData
 vB:Addr
 vC:FuncData
 X4:Addr
 X5:FuncData
 Tc:Addr
 Td:FuncData
 Yu:Addr
 Yv:FuncData
 Ni:Addr
 Nj:FuncData
 YQ:Addr
 YS:FuncData
 X6:Addr
 X7:FuncData
 Vx:Addr
 Vy:FuncData
 Wy:Addr
 Wz:FuncData
 Ry:Addr
 Rz:FuncData
 Ug:Addr
 Uh:FuncData
 Nk:Addr
 Nm:FuncData
 M9:Addr
 La:FuncData
 ZW:Addr
 ZX:FuncData
 Zk:Addr
 Zm:FuncData
 Z0:Addr
 Z1:FuncData
 RB:Addr
 RD:FuncData
 Vz:Addr
 VB:FuncData
 Xl:Addr
 Xm:FuncData
 Zn:Addr
 Zo:FuncData
 uQ:Addr
 uR:FuncData
 Z2:Addr
 Z4:FuncData
 RG:Addr
 RJ:FuncData
 Te:Addr
 Tg:FuncData
 WD:Addr
 WK:FuncData
 uH:Addr
 uI:FuncData
 Vo:Addr
 RK:FuncData
 vM:Addr
 vN:FuncData
 ze2:Addr
 ze3:FuncData
 Ti:Addr
 Tj:FuncData
 ze4:Addr
 ze5:FuncData
 yL:Addr
 yM:FuncData
 JK:Addr
 JL:FuncData
 zdH:Addr
 zdI:FuncData
 xZ:Addr
 wg:FuncData
 vo:Addr
 vp:FuncData
 Kw:Addr
 Ky:FuncData
 Z5:Addr
 Z6:FuncData
 Xn:Addr
 Xo:FuncData
 X8:Addr
 Wa:FuncData
 RL:Addr
 RM:FuncData
 Np:Addr
 Nq:FuncData
 Qy:Addr
 Qz:FuncData
 za9:Addr
 zba:FuncData
 tK:Addr
 tL:FuncData
 zdJ:Addr
 zdK:FuncData
 YT:Addr
 YW:FuncData
 Tn:Addr
 Tp:FuncData
 VD:Addr
 VF:FuncData
 xg:Addr
 xq:FuncData
 Z7:Addr
 Z8:FuncData
 VG:Addr
 VH:FuncData
 Yw:Addr
 Yx:FuncData
 Z9:Addr
 Yb:FuncData
 tO:Addr
 tQ:FuncData
 YX:Addr
 YZ:FuncData
 Xp:Addr
 Xq:FuncData
 RN:Addr
 RP:FuncData
 uo:Addr
 ur:FuncData
 WL:Addr
 WM:FuncData
 VJ:Addr
 VL:FuncData
 Xe:Addr
 Xf:FuncData
 WQ:Addr
 WR:FuncData
 VN:Addr
 VP:FuncData
 a_law:Addr
 d_law:FuncData
 zA:Addr
 zaf:Addr
 zbG:Tok
 ze6:Tok
 Ui:Addr
 zij:List (Str×Value)
 zag:Addr
structure Txt (P:Program)(w:World)(K:Frag)(mg:Str->Option Value)(a:Ad):Prop where
 zmZ:mg "Book"=some (.ref a.zA)
 uJ:Df K mg "all_rows" za1 a.vK a.vL wK
 Xg:Df K mg "rows_with" Ji a.vB a.vC wu
 Uj:Df K mg "flipped" zcA a.X4 a.X5 Yq
 zbb:Df K mg "value_at" za2 a.Tc a.Td Wo
 Yy:Df K mg "held_at" zcB a.Yu a.Yv Zu
 zbc:Df K mg "hangs_on" za3 a.Ni a.Nj U7
 Q8:Df K mg "first_place" QV a.YQ a.YS tE
 QB:Df K mg "without" zcC a.X6 a.X7 Yr
 Q9:Df K mg "rows_having" QW a.Vx a.Vy YF
 RQ:Df K mg "first_values" Rk a.Wy a.Wz ZQ
 Jo:Df K mg "first_row" Jj a.Ry a.Rz Ve
 Kz:Df K mg "is_mark" zcD a.Ug a.Uh X3
 zbd:Df K mg "is_order" Nf a.Nk a.Nm U8
 ze7:Df K mg "is_row" za4 a.M9 a.La Rn
 Tq:Df K mg "letters_of" MF a.ZW a.ZX uM
 Tr:Df K mg "parts_of" za5 a.Zk a.Zm uE
 WT:Df K mg "parts_of_all" Ro a.Z0 a.Z1 uF
 Jp:Df K mg "is_shaped" Vf a.RB a.RD Vg
 Pa:Df K mg "is_sentence" Vv a.Vz a.VB YG
 TY:Df K mg "must_be_order" TF a.Xl a.Xm Zc
 WW:Df K mg "must_be_sentence" Wr a.Zn a.Zo vJ
 Uk:Df K mg "must_have_mark" V9 a.uQ a.uR vd
 Vp:Df K mg "must_have_marks" Vh a.Z2 a.Z4 uh
 Jq:Df K mg "tuples_in" Jk a.RG a.RJ Vi
 Lb:Df K mg "letters_in" MN a.Te a.Tg XH
 Nr:Df K mg "table_of" Ng a.WD a.WK Ys
 RT:Df K mg "table_of_two" Rp a.uH a.uI vf
 zcE:Df K mg "is_cube" Ku a.Kw a.Ky Qw
 WX:Df K mg "must_be_cube" Rr a.Z5 a.Z6 uG
 T4:Df K mg "must_be_cubes" TQ a.Xn a.Xo Zd
 Wb:Df K mg "rows_of" Uc a.X8 a.Wa Yt
 RV:Df K mg "is_within" Jm a.RL a.RM Vl
 zbe:Df K mg "is_prime" Nh a.Np a.Nq U9
 zcF:Df K mg "widened" Qx a.Qy a.Qz Ud
 ze8:Df K mg "primes" ze1 a.za9 a.zba M6
 tU:Df K mg "primes_from" wL a.tK a.tL vV
 zht:Df K mg "cover" zdE a.zdJ a.zdK zae
 Y0:Df K mg "rows_of_one" QX a.YT a.YW tG
 Nt:Df K mg "is_cover" za7 a.Tn a.Tp Wt
 Pb:Df K mg "cover_shows" vW a.VD a.VF YH
 xr:Df K mg "_law_cell_at" TV a.xg a.xq yO
 wC:Df K mg "_law_draw" M7 a.Z7 a.Z8 uN
 Pg:Df K mg "_law_order" QZ a.VG a.VH YJ
 Ul:Df K mg "_law_sentence" vm a.Yw a.Yx uO
 Tt:Df K mg "_law_rows" M8 a.Z9 a.Yb uP
 v7:Df K mg "_law_value" Q5 a.tO a.tQ vZ
 Ph:Df K mg "_law_whole" Q6 a.YX a.YZ tH
 T5:Df K mg "_law_numbers" Xk a.Xp a.Xq Ze
 Jr:Df K mg "_law_yes" Ru a.RN a.RP Vn
 Vq:Df K mg "_law_cube_rows" ZR a.uo a.ur wB
 WY:Df K mg "_law_inside" Ww a.WL a.WM ZS
 Pj:Df K mg "_law_prime" Q7 a.VJ a.VL YK
 RW:Df K mg "_law_has" Rw a.Xe a.Xf Zv
 RX:Df K mg "_law_covers" Wx a.WQ a.WR ZV
 Pk:Df K mg "_law_shows" YL a.VN a.VP YM
 f_law:Df K mg "law" S_law a.a_law a.d_law p_law
 Js:Dm K a.zA "__init__" "Book.__init__" Jl a.Vo a.RK Vk
 Yc:Dm K a.zA "order" "Book.order" M4 a.vM a.vN wz
 zl2:Dm K a.zA "size" "Book.size" zeW a.ze2 a.ze3 zeX
 Ld:Dm K a.zA "enter" "Book.enter" M5 a.Ti a.Tj XJ
 zl3:Dm K a.zA "room" "Book.room" zeY a.ze4 a.ze5 zeZ
 wQ:Dm K a.zA "must_be_room" "Book.must_be_room" Xu a.yL a.yM yx
 ziy:Dm K a.zA "place_of" "Book.place_of" JD a.JK a.JL JF
 zlu:Dm K a.zA "going" "Book.going" zdB a.zdH a.zdI zdC
 Zf:Dm K a.zA "table_at" "Book.table_at" TJ a.xZ a.wg yZ
 uT:Dm K a.zA "room_with" "Book.room_with" Ua a.vo a.vp xU
 yH:Cls K a.zA
 zlv:Mk K a.zA a.Vo
 tV:Wg K a.zA "marks"
 Y4:Wg K a.zA "rooms"
 W0:Wg K a.zA "tables"
 vR:Wg K a.zA "numbers"
 zlw:mg "MARKS"=some (.ref a.zaf)
 zlx:∀H,wG K H a.zaf ((["a", "b", "c", "d", "e", "f", "g", "h"]:List Str).map V.str)
 zbH:mg "MOST_TUPLES"=some (.int 200 a.zbG)
 ze9:mg "MOST_DEEP"=some (.int 24 a.ze6)
 Le:mg "SHAPES"=some (.ref a.Ui)
 W2:Shp K P w a.Ui a.zij yW
 zly:mg "SIGNS"=some (.ref a.zag)
 zlz:∀H,wG K H a.zag ((["-", "0", "1"]:List Str).map V.str)
 Um:mg "all"=none
 zof:mg "any"=none
 zm0:mg "bool"=none
 RZ:mg "enumerate"=none
 zfa:mg "int"=none
 wD:mg "isinstance"=none
 yJ:mg "len"=none
 W3:mg "list"=none
 zj5:mg "max"=none
 zog:mg "min"=none
 Yd:mg "range"=none
 zj6:mg "repr"=none
 zl4:mg "set"=none
 zj7:mg "sorted"=none
 zj8:mg "str"=none
 zhu:mg "tuple"=none
 zl5:mg "zip"=none
theorem x_law {K:Frag}{mg:Str->Option Value}{f:Addr}{d:FuncData}(F:Df K mg "law" S_law f d p_law):∀(s:Shared) (u:Value),BindsTo s d ⟨[u],[]⟩ [("script", u)]:=by
 obtain⟨_,_,_,_,_,_,_,_,_,rfl,_,_⟩:=F.F.ex
 exact fun s u=>.of_eq rfl
theorem zoh {P:Program}{w:World}{K:Frag}{mg:Str->Option Value}{x0 x2 x4 x6 x8 x10 x12 x14 x16 x18 x20 x22 x24 x26 x28 x30 x32 x34 x36 x38 x40 x42 x44 x46 x48 x50 x52 x54 x56 x58 x60 x62 x64 x66 x68 x70 x72 x74 x76 x78 x80 x82 x84 x86 x88 x90 x92 x94 x96 x98 x100 x102 x104 x106 x108 x110 x112 x114 x116 x118 x120 x122 x124 x126 x128 x130 x132 x133 x136 x138:Addr}{x1 x3 x5 x7 x9 x11 x13 x15 x17 x19 x21 x23 x25 x27 x29 x31 x33 x35 x37 x39 x41 x43 x45 x47 x49 x51 x53 x55 x57 x59 x61 x63 x65 x67 x69 x71 x73 x75 x77 x79 x81 x83 x85 x87 x89 x91 x93 x95 x97 x99 x101 x103 x105 x107 x109 x111 x113 x115 x117 x119 x121 x123 x125 x127 x129 x131:FuncData}{x134 x135:Tok}{x137:List (Str×Value)}(t:Txt P w K mg ⟨x0,x1,x2,x3,x4,x5,x6,x7,x8,x9,x10,x11,x12,x13,x14,x15,x16,x17,x18,x19,x20,x21,x22,x23,x24,x25,x26,x27,x28,x29,x30,x31,x32,x33,x34,x35,x36,x37,x38,x39,x40,x41,x42,x43,x44,x45,x46,x47,x48,x49,x50,x51,x52,x53,x54,x55,x56,x57,x58,x59,x60,x61,x62,x63,x64,x65,x66,x67,x68,x69,x70,x71,x72,x73,x74,x75,x76,x77,x78,x79,x80,x81,x82,x83,x84,x85,x86,x87,x88,x89,x90,x91,x92,x93,x94,x95,x96,x97,x98,x99,x100,x101,x102,x103,x104,x105,x106,x107,x108,x109,x110,x111,x112,x113,x114,x115,x116,x117,x118,x119,x120,x121,x122,x123,x124,x125,x126,x127,x128,x129,x130,x131,x132,x133,x134,x135,x136,x137,x138⟩):∃a,Txt P w K mg a:=⟨_,t⟩
end K63
namespace K63
open PySem L2 yU
section
variable {P:Program}{w:World}{K:Frag}{mg:Str->Option Value}{base:Heap}{a:Ad}{k:Nat}
theorem zfb (T:Txt P w K mg a):zE P w K mg base zW (k+1) a.vK a.vL wK uL:=by
 refine T.uJ.F.ok zeS (fun vs H Q E h=>?_) (fun cdv A outer s H vs Q E hr h=>?_)
 ·obtain⟨n,rfl,_⟩:=h
  rfl
 obtain⟨n,rfl,hn,q⟩:=h
 refine⟨_,(zm (zG (zL Lq (zL ZD zx (zL ZD zx (pv 0))) zx))),?_⟩
 have h1:=zhQ hn
 have one:1<2^10000:=zcc (k:=1) (by decide) (by decide)
 refine⟨_,rfl,1,n,rfl,rfl,one,by omega,1,1*2^n,rfl,rfl,one,by omega,_,1,rfl,rfl,?_⟩
 have e:(((1*2^(1*2^n):Nat):Int)-1)=((2^2^n-1:Nat):Int):=by
  rw[Nat.one_mul,Nat.one_mul]
  have:=Nat.two_pow_pos (2^n)
  omega
 show Q (.int (((1*2^(1*2^n):Nat):Int)-1)) H
 rw[e]
 exact q
theorem zdL (T:Txt P w K mg a):zE P w K mg base zW (k+1) a.vB a.vC wu ux:=by
 refine T.Xg.F.ok ZP (fun vs H Q E h=>?_) (fun cdv A outer s H vs Q E hr h=>?_)
 ·obtain⟨p,n,rfl,_⟩:=h
  rfl
 obtain⟨p,n,rfl,hp,hn,q⟩:=h
 refine⟨_,(zj (zJ 2 ZP.nd (zL ZD zx (pv 0)))
   (zj (zJ 3 ZP.nd (zL ZD (zL Lq (zL ZD zx (pv 2)) zx) (pv 2)))
   (zj (xJ PassesOwn.never rfl (zbX rfl T.Yd (za (zL wH (pv 0) zx) (za (pv 1) zc))) (z9 (i:=4) ZP.nd rfl (Or.inl rfl)) (zm (zJ 3 ZP.nd (zL Vr (pv 3) (zL ZD (pv 3) (zL ZD zx (pv 4)))))))
   (zm (zG (pv 3)))))),?_⟩
 have one:1<2^10000:=zcc (k:=1) (by decide) (by decide)
 have h1:=zhQ (n:=p) (by omega)
 have hh:2^p<2^10000:=Nat.pow_lt_pow_right (by decide) (by omega)
 have pp:=Nat.two_pow_pos (2^p)
 have e1:((1*2^(1*2^p):Nat):Int)-1=((2^2^p-1:Nat):Int):=by
  rw[Nat.one_mul,Nat.one_mul]
  omega
 have lt1:2^2^p-1<2^10000:=ztB (Nat.sub_lt pp (by decide)) (ztY (by decide) (by omega))
 refine⟨_,rfl,1,p,rfl,rfl,one,by omega,?_⟩
 refine⟨_,rfl,1,1*2^p,rfl,rfl,one,by omega,_,1,rfl,rfl,_,rfl,2^2^p-1,1*2^p,congrArg V.int e1,rfl,lt1,by omega,?_⟩
 refine⟨_,rfl,_,1,rfl,rfl,_,rfl,(p:Int)+1,(n:Int),rfl,⟨by omega,by omega,by omega,by omega⟩,?_⟩
 refine Zr (fun i σ H'=>H'=H/\∃(N:Nat) (f:Option V),σ=[some (.int p),some (.int n),some (.int ((1*2^p:Nat):Int)),some (.int N),f]/\zV (p+1+i) N (fun b=>b.testBit p)) ⟨rfl,_,_,rfl,?_⟩ ?_ ?_
 ·rw[Nat.one_mul]
  exact zhP p
 ·rintro i σ H' hi ⟨rfl,N,f,rfl,tb⟩
  have hi':p+1+i<n:=by omega
  have h2:=zhQ (n:=p+1+i) (by omega)
  have e2:V.int ((p:Int)+1+(i:Nat))=V.int ((p+1+i:Nat):Int):=congrArg V.int (by omega)
  have lt2:N<2^10000:=zcc (zi6 tb) (ztO h2 (by decide))
  refine⟨_,rfl,_,rfl,_,rfl,1,p+1+i,rfl,e2,one,by omega,N,1*2^(p+1+i),rfl,rfl,lt2,by omega,N,N*2^(1*2^(p+1+i)),rfl,rfl,?_⟩
  refine⟨rfl,_,_,rfl,?_⟩
  rw[Nat.one_mul]
  exact zfO (m:=p+1+i) (by omega) tb
 ·rintro σ H' ⟨rfl,N,f,rfl,tb⟩
  have e3:p+1+((n:Int)-((p:Int)+1)).toNat=n:=by omega
  rw[e3] at tb
  exact⟨_,rfl,q N tb⟩
theorem zgm (T:Txt P w K mg a)(xR:zE P w K mg base zW k a.vB a.vC wu ux):zE P w K mg base zW (k+1) a.X4 a.X5 Yq XM:=by
 refine T.Uj.F.ok P0 (fun vs H Q E h=>?_) (fun cdv A outer s H vs Q E hr h=>?_)
 ·obtain⟨N,p,n,f,rfl,_⟩:=h
  rfl
 obtain⟨N,p,n,f,rfl,hp,hn,tb,q⟩:=h
 refine⟨_,(zj (zJ 3 P0.nd (zL tZ (pv 0) (zp xR hr T.Xg (za (pv 1) (za (pv 2) zc)))))
   (zj (zJ 4 P0.nd (zL Qe (pv 0) (pv 3)))
   (zm (zG (zL Vr (zL zgU (pv 3) (zL ZD zx (pv 1))) (zL ZD (pv 4) (zL ZD zx (pv 1)))))))),?_⟩
 have one:1<2^10000:=zcc (k:=1) (by decide) (by decide)
 have h1:=zhQ (n:=p) (by omega)
 have h2:=zhQ (n:=n) (by omega)
 refine⟨_,rfl,_,rfl,_,rfl,p,n,rfl,hp,hn,fun R tr=>?_⟩
 refine⟨N,R,rfl,rfl,?_⟩
 refine⟨_,rfl,_,rfl,N,N&&&R,rfl,rfl,?_⟩
 have o:=tY tb tr
 have z:=Uy tb o
 have lt2:N ^^^ (N&&&R)<2^10000:=zcc (zi6 z) (ztO h2 (by decide))
 refine⟨_,rfl,_,rfl,1,p,rfl,rfl,one,by omega,N&&&R,1*2^p,rfl,rfl,_,rfl,_,rfl,1,p,rfl,rfl,one,by omega,N ^^^ (N&&&R),1*2^p,rfl,rfl,lt2,by omega,_,_,rfl,rfl,?_⟩
 refine q _ ?_
 rw[Nat.one_mul]
 exact zi7 hp tb tr
theorem zgn (T:Txt P w K mg a):zE P w K mg base zW (k+1) a.xg a.xq yO (Ma K):=by
 refine T.xr.F.ok Ue (fun vs H Q E h=>?_) (fun cdv A outer s H vs Q E hr h=>?_)
 ·obtain⟨l,ns,i,rfl,_⟩:=h
  rfl
 obtain⟨l,ns,i,rfl,hS,h0,q⟩:=h
 refine⟨_,(zj (yr (zO zgK (pv 1) (zF zH rfl T.yJ yc (za (pv 0) zc)) (zR _)) (zm (zG (yq yQ (pv 0) (pv 1) (fun _ _=>rfl)))) zU)
   (zm (zG zx))),?_⟩
 refine⟨_,rfl,_,rfl,l,_,rfl,.inl hS,_,_,rfl,rfl,_,rfl,?_⟩
 refine z8 (fun c=>?_) (fun c=>?_)
 ·have c':i<(((ns.map V.int).length:Nat):Int):=of_decide_eq_true c
  rw[zts] at c'
  have hi:i.toNat<ns.length:=by omega
  have e:atI (ns.map V.int) i=some (.int ns[i.toNat]):=by
   have q:=vG (xs:=ns.map V.int) (j:=i.toNat) (v:=.int ns[i.toNat]) (by rw[ztu,ztt hi];rfl)
   have ei:((i.toNat:Nat):Int)=i:=by omega
   rw[ei] at q
   exact q
  exact⟨_,rfl,_,rfl,l,_,i,_,rfl,rfl,hS,e,q _⟩
 ·exact q 0
theorem zlA (T:Txt P w K mg a):zE P w K mg base zW (k+1) a.Z7 a.Z8 uN zav:=by
 refine T.wC.F.ok vX (fun vs H Q E h=>?_) (fun cdv A outer s H vs Q E hr h=>?_)
 ·obtain⟨c,m,b,rfl,_⟩:=h
  rfl
 obtain⟨c,m,b,rfl,hm,b0,b1,q⟩:=h
 refine⟨_,(zj (yr (zO zlL (pv 0) (zL zmt zx zx) (zR _)) (zj (zJ 4 vX.nd (pv 0))
   (zj (xJ PassesOwn.never rfl (Zq rfl T.Yd (za (pv 1) zc)) (z9 (i:=5) vX.nd rfl (Or.inl rfl)) (zm (zJ 4 vX.nd (zL zgG (pv 4) (pv 2)))))
   (zm (zG (zL Yh (pv 4) (pv 2)))))) zU)
   (zj (zJ 3 vX.nd (zL Yh (zL Lr (zL wH (zL wH (zL Yh (pv 0) zx) (zL Lr zx (pv 1))) zx) zx) zx))
   (zj (zJ 3 vX.nd (zL Yh (zL wH (zL wH (zL Lr (pv 3) (pv 3)) (zL Lr zx (pv 1))) zx) zx))
   (zm (zG (zL Yh (zL zgG (zL Yh (zL Lr (pv 3) zx) zx) zx) (pv 2))))))),?_⟩
 refine⟨_,rfl,10,18,rfl,rfl,⟨by decide,by decide,by decide⟩,_,_,rfl,rfl,_,rfl,?_⟩
 refine z8 (fun _=>?_) (fun _=>?_)
 ·refine⟨_,rfl,?_⟩
  refine⟨_,rfl,(m:Int),rfl,by omega,by omega,?_⟩
  refine Zr (fun i σ H'=>H'=H/\∃(x:Int) (f1 f2:Option V),σ=[some (.int c),some (.int m),some (.int b),f1,some (.int x),f2]) ⟨rfl,c,_,_,rfl⟩ ?_ ?_
  ·rintro i σ H' hi ⟨rfl,x,f1,f2,rfl⟩
   refine⟨_,rfl,_,rfl,x,b,rfl,rfl,⟨b0,b1⟩,?_⟩
   exact⟨rfl,x / b,_,_,rfl⟩
  ·rintro σ H' ⟨rfl,x,f1,f2,rfl⟩
   refine⟨_,rfl,_,rfl,x,b,rfl,rfl,b0,?_⟩
   exact q _ (zub _ (by omega)) (zt7 _ b0)
 ·have p1:(0:Int)<1000000007:=by decide
  have p2:(0:Int)<2147483647:=by decide
  have p3:(0:Int)<2147483629:=by decide
  refine⟨_,rfl,c,1000000007,rfl,rfl,p1,_,rfl,1009,(m:Int),rfl,rfl,.inl ⟨by decide,by decide⟩,_,_,rfl,rfl,_,17,rfl,rfl,_,69621,rfl,rfl,.inr ⟨by decide,by decide⟩,_,2147483647,rfl,rfl,p2,?_⟩
  have z0:0<=(c%1000000007+1009*(m:Int)+17)*69621%2147483647:=zub _ (by decide)
  have z1:(c%1000000007+1009*(m:Int)+17)*69621%2147483647<2147483647:=zt7 _ p2
  refine⟨_,rfl,_,rfl,_,_,rfl,rfl,.inl ⟨Int.lt_of_lt_of_le (by decide) z0,Int.lt_trans z1 (by decide)⟩,_,rfl,40503,(m:Int),rfl,rfl,.inl ⟨by decide,by decide⟩,_,_,rfl,rfl,_,5,rfl,rfl,_,2147483629,rfl,rfl,p3,?_⟩
  refine⟨_,rfl,_,48271,rfl,rfl,.inr ⟨by decide,by decide⟩,_,2147483647,rfl,rfl,p2,_,32,rfl,rfl,⟨by decide,by decide⟩,_,rfl,_,b,rfl,rfl,b0,?_⟩
  exact q _ (zub _ (by omega)) (zt7 _ b0)
theorem zj9 (T:Txt P w K mg a)(wF:zE P w K mg base zW k a.Z7 a.Z8 uN zav):zE P w K mg base zW (k+1) a.VG a.VH YJ zc3:=by
 refine T.Pg.F.ok Wv (fun vs H Q E h=>?_) (fun cdv A outer s H vs Q E hr h=>?_)
 ·obtain⟨c,n,rfl,_⟩:=h
  rfl
 obtain⟨c,n,rfl,hn,h8,q⟩:=h
 refine⟨_,(zj (zJ 2 Wv.nd (yK zc))
   (zj (xJ PassesOwn.never rfl (Zq rfl T.Yd (za (zL wH zx (zp wF hr T.wC (za (pv 0) (za zx (za (pv 1) zc))))) zc)) (z9 (i:=3) Wv.nd rfl (Or.inl rfl)) (zm (yu (uw PySem.F.plainAttrs_list PySem.F.slot_list_insert PySem.F.type_list_insert zhN (pv 2) (za (zL Yh (zp wF hr T.wC (za (pv 0) (za (zL wH zx (pv 3)) (za zx zc)))) (zL wH (pv 3) zx)) (za (yq zcR zZ (pv 3) (fun _ _=>rfl)) zc))))))
   (zm (zG (pv 2))))),?_⟩
 refine⟨by show 0<=sizeLine;decide,fun l hl=>?_⟩
 refine⟨_,rfl,_,rfl,c,0,(n:Int),rfl,by decide,by omega,by omega,fun r r0 r1=>?_⟩
 refine⟨1,r,rfl,rfl,1+r,rfl,by omega,by omega,?_⟩
 refine Zr (fun i σ H'=>∃(os:List Str) (f1:Option V),Same H H'/\H' l=some (.lst (os.map V.str))/\os.Nodup/\os.length=i/\(∀x∈os,x∈ud.take i)/\σ=[some (.int c),some (.int n),some (.ref l),f1])
  ⟨[],_,SM hl _,zf,List.nodup_nil,rfl,(fun _ h=>nomatch h),rfl⟩ ?_ ?_
 ·rintro i σ H' hi ⟨os,f1,g,hl',nd,le,mem,rfl⟩
  have i8:i<8:=by omega
  obtain⟨ch,hc1,hc2⟩:=zkR i8
  have e1:(1:Int)+(0+(i:Nat))=((1+i:Nat):Int):=by omega
  have e2:(0:Int)+(i:Nat)=((i:Nat):Int):=by omega
  refine⟨_,rfl,.inl ⟨rfl,_,zP.of hl'⟩,?_⟩
  refine⟨_,rfl,_,rfl,1,_,rfl,rfl,c,1+i,5040,congrArg (fun z=>[V.int c,V.int z,V.int 5040]) e1,by omega,by decide,by decide,fun r' s0 s1=>?_⟩
  refine⟨_,rfl,_,1,rfl,rfl,r',_,rfl,rfl,by show(0:Int)<0+(i:Nat)+1;omega,?_⟩
  refine⟨_,rfl,_,(i:Int),ch,rfl,congrArg V.int e2,by show(Str.ofString "abcdefgh").length<=sizeLine;decide,hc1,?_⟩
  have m0:0<=r'%(0+(i:Nat)+1):=zub _ (by omega)
  have m1:r'%(0+(i:Nat)+1)<0+(i:Nat)+1:=zt7 _ (by omega)
  generalize hj:r'%(0+((i:Nat):Int)+1)=j at m0 m1
  refine⟨l,os.map V.str,j,_,rfl,by rw[<-hj],hl',m0,by rw[zts];omega,by rw[zts];exact ztB (show os.length<9 by omega) (by decide),?_⟩
  have nm:(⟨#[ch]⟩:Str)∉os:=fun hm=>zi9 hc2 (mem _ hm)
  have ml:∀x∈ud.take i,x∈ud.take (i+1):=fun x hx=>by
   rw[List.take_succ]
   exact List.mem_append_left _ hx
  have mn:(⟨#[ch]⟩:Str)∈ud.take (i+1):=by
   rw[List.take_succ,hc2]
   exact ztJ _ (by simp)
  refine⟨os.take j.toNat++(⟨#[ch]⟩:Str)::os.drop j.toNat,_,?_,?_,?_,?_,?_,rfl⟩
  ·exact fun b o hb=>by rw[zB (zy hb hl)];exact g b o hb
  ·rw[zf]
   simp
  ·refine List.perm_middle.nodup_iff.mpr (List.nodup_cons.mpr ⟨?_,?_⟩)
   ·rw[List.take_append_drop];exact nm
   ·rw[List.take_append_drop];exact nd
  ·rw[ztA,ztE,ztQ,List.length_drop]
   omega
  ·intro x hx
   rcases List.mem_append.mp hx with z | z
   ·exact ml x (mem x (List.mem_of_mem_take z))
   ·rcases List.mem_cons.mp z with z | z
    ·rw[z];exact mn
    ·exact ml x (mem x (List.mem_of_mem_drop z))
 ·rintro σ H' ⟨os,f1,g,hl',nd,le,mem,rfl⟩
  refine⟨_,rfl,q l H' os g hl' ⟨nd,fun x hx=>List.mem_of_mem_take (mem x hx),by omega⟩ (by omega)⟩
theorem zdM (T:Txt P w K mg a)(wj:zE P w K mg base zW k a.xg a.xq yO (Ma K))(wF:zE P w K mg base zW k a.Z7 a.Z8 uN zav) :
  zE P w K mg base zW (k+1) a.Yw a.Yx uO (Rg K):=by
 refine T.Ul.F.ok yt (fun vs H Q E h=>?_) (fun cdv A outer s H vs Q E hr h=>?_)
 ·obtain⟨sc,ol,ns,t,m,os,rfl,_⟩:=h
  rfl
 obtain⟨sc,ol,ns,t,m,os,rfl,hS,hO,o0,o8,m0,m40,t60,q⟩:=h
 obtain⟨st0,h0⟩:∃st0,st0=(uc vm).headD (.Pass ⟨0,0,0,0⟩):=⟨_,rfl⟩
 have hb:uc vm=st0::(uc vm).tail:=by rw[h0];rfl
 rw[hb]
 have hk:zc1 st0=some (Str.ofString "kinds", Pu):=by rw[h0];rfl
 refine⟨_,zj (zkQ (i:=4) hk yt.nd rfl (Or.inl rfl) (.inl rfl)) (zj (zJ 5 yt.nd (yK (za (uY (za zZ (za (yq yQ (pv 3) (zL Yh (zp wF hr T.wC (za (zp wj hr T.xr (za (pv 0) (za (pv 1) zc))) (za zx (za zx zc)))) (zF zH rfl T.yJ yc (za (pv 3) zc))) (fun _ _=>rfl)) zc))) zc)))
   (zj (xJ PassesOwn.never rfl (zbX rfl T.Yd (za zx (za (pv 2) zc))) (z9 (i:=6) yt.nd rfl (Or.inl rfl)) (zj (zJ 7 yt.nd (zp wj hr T.xr (za (pv 0) (za (zL wH (pv 1) (pv 6)) zc))))
   (zj (zJ 8 yt.nd (yq yQ (pv 4) (zp wF hr T.wC (za (pv 7) (za zx (za zx zc)))) (fun _ _=>rfl)))
   (zj (zJ 9 yt.nd (yq yQ (pv 5) (zL Lq (zlK ziD zx) (zL Yh (zp wF hr T.wC (za (pv 7) (za zx (za zx zc)))) (zF zH rfl T.yJ yc (za (pv 5) zc)))) (fun _ _=>rfl)))
   (zj (zJ 10 yt.nd (yq yQ (pv 5) (zL Yh (zp wF hr T.wC (za (pv 7) (za zx (za zx zc)))) (zF zH rfl T.yJ yc (za (pv 5) zc))) (fun _ _=>rfl)))
   (zj (zJ 11 yt.nd (yq yQ (pv 3) (zL Yh (zp wF hr T.wC (za (pv 7) (za zx (za zx zc)))) (zF zH rfl T.yJ yc (za (pv 3) zc))) (fun _ _=>rfl)))
   (zm (yr (PW.pt (Va (zO xu (pv 8) zZ (zR _)) (Wd (zO xu (pv 8) zZ (zR _))))) (zm (yu (uw PySem.F.plainAttrs_list PySem.F.slot_list_append PySem.F.type_list_append wU (pv 5) (za (uY (za (pv 8) zc)) zc)))) (zm (yr (zO xu (pv 8) zZ (zR _)) (zm (yu (uw PySem.F.plainAttrs_list PySem.F.slot_list_append PySem.F.type_list_append wU (pv 5) (za (uY (za zZ (za (pv 11) zc))) zc)))) (zm (yr (zO xu (pv 8) zZ (zR _)) (zm (yu (uw PySem.F.plainAttrs_list PySem.F.slot_list_append PySem.F.type_list_append wU (pv 5) (za (uY (za zZ (za (pv 9) zc))) zc)))) (zm (yr (PW.pt (Va (zO xu (pv 8) zZ (zR _)) (Wd (zO xu (pv 8) zZ (zR _))))) (zm (yu (uw PySem.F.plainAttrs_list PySem.F.slot_list_append PySem.F.type_list_append wU (pv 5) (za (uY (za (pv 8) (za (pv 11) (za (pv 9) zc)))) zc)))) (zm (yu (uw PySem.F.plainAttrs_list PySem.F.slot_list_append PySem.F.type_list_append wU (pv 5) (za (uY (za (pv 8) (za (pv 10) (za (pv 9) zc)))) zc))))))))))))))))))
   (zm (zG (yq yQ (pv 5) (zlK ziD zx) (fun _ _=>rfl)))))),?_⟩
 refine⟨by show 14<=sizeLine;decide,fun kd hkd=>?_⟩
 have g1:=SM hkd (.lst (Pu.map V.str))
 have hS1:=g1.seq hS
 have hO1:=g1.seq hO
 refine⟨_,rfl,_,rfl,_,rfl,sc,ns,(t:Int),rfl,hS1,by omega,fun c0=>?_⟩
 refine⟨c0,3,40320,rfl,by decide,by decide,by decide,fun r0 _ _=>?_⟩
 obtain⟨x0,hx0,hx0'⟩:=K7 o0 r0
 have pl:(0:Int)<((os.map V.str).length:Nat):=by rw[zts];omega
 refine⟨_,rfl,ol,_,rfl,.inl hO1,_,_,rfl,rfl,pl,ol,_,_,.str x0,rfl,rfl,hO1,hx0',by show 2<=sizeLine;decide,fun p0 hp0=>?_⟩
 refine⟨by show 1<=sizeLine;decide,fun md hmd=>?_⟩
 have g2:=SM hp0 (.tup [.str "mark", .str x0])
 have g3:=SM hmd (.lst [.ref p0])
 have f0:H md=none:=(g1.trans g2).free hmd
 have nk:md≠kd:=Ne.symm (zy (g2 _ _ zf) hmd)
 have N0:zcr H (upd (upd (upd H kd (.lst (Pu.map V.str))) p0 (.tup [.str "mark", .str x0])) md (.lst [.ref p0])) os md kd [p0] 1 [.mk x0]:=by
  refine⟨?_,Few.none.push [] [x0] (fun c hc=>absurd hc ztT) (fun x hx=>.inl hx) (by show 2*1+0<=2;decide),rfl,fun p hp=>⟨.mk x0,List.mem_singleton.mpr rfl,by rw[List.mem_singleton.mp hp];exact g3 _ _ zf,hx0,ztI _⟩⟩
  refine⟨g1.trans (g2.trans g3),zf,g3 _ _ (g2 _ _ zf),by simp,fun p hp=>?_⟩
  have e:p=p0:=by simpa using hp
  subst e
  exact⟨.mk x0,g3 _ _ zf,hx0,ztI _⟩
 refine⟨_,rfl,1,(m:Int),rfl,⟨by omega,by omega,by omega,by omega⟩,?_⟩
 refine Zr (fun i σ H'=>∃(ps:List Addr) (ss:List Sn) (f1 f2 f3 f4 f5 f6:Option V),zcr H H' os md kd ps (i+1) ss/\ps.length=i+1/\σ=[some (.ref sc),some (.int t),some (.int m),some (.ref ol),some (.ref kd),some (.ref md),f1,f2,f3,f4,f5,f6])
  ⟨[p0],_,_,_,_,_,_,_,N0,rfl,rfl⟩ ?_ ?_
 ·rintro i σ H' hi ⟨ps,ss,f1,f2,f3,f4,f5,f6,N,lp,rfl⟩
  have M:=N.M
  have hS2:=M.old.seq hS
  have hO2:=M.old.seq hO
  have e1:(t:Int)+(1+(i:Nat))=((t+(1+i):Nat):Int):=by omega
  refine⟨_,rfl,_,rfl,_,rfl,_,_,rfl,rfl,sc,ns,_,rfl,hS2,by omega,fun c=>?_⟩
  refine⟨_,rfl,_,rfl,c,0,14,rfl,by decide,by decide,by decide,fun d d0 d1=>?_⟩
  obtain⟨jk,vk,qk1,qk2⟩:=zc5 (xs:=Pu.map V.str) (i:=d) (by show -((14:Nat):Int)<=d;omega) (by show d<((14:Nat):Int);omega)
  obtain⟨kind,hkm,hkv⟩:∃kind,kind∈Pu/\vk=.str kind:=by
   rw[ztu] at qk2
   cases hx:Pu[jk]? with
   | none=>rw[hx] at qk2;cases qk2
   | some x=>rw[hx] at qk2;cases qk2;exact⟨x,ztx hx,rfl⟩
  subst hkv
  refine⟨kd,_,_,_,rfl,rfl,zP.of M.kin,qk1,?_⟩
  have lm:((ps.map V.ref).length:Nat)=i+1:=by rw[zts];exact lp
  have pm:(0:Int)<((ps.map V.ref).length:Nat):=by rw[lm];omega
  refine⟨_,rfl,1,rfl,_,rfl,c,1,2,rfl,by decide,by decide,by decide,fun d2 _ _=>?_⟩
  refine⟨_,rfl,md,_,rfl,.inl (zP.of M.mad),_,_,rfl,rfl,pm,_,_,rfl,rfl,?_⟩
  have a0:=zub d2 (show((ps.map V.ref).length:Int)≠0 by omega)
  have a1:=zt7 d2 pm
  obtain⟨q1,hq1,hq1'⟩:=LK (ps:=ps) (i:=-1-d2%((ps.map V.ref).length:Nat)) (by rw[lm] at a0 a1 ⊢;omega) (by rw[lm] at a0 a1 ⊢;omega)
  refine⟨md,_,_,_,rfl,rfl,zP.of M.mad,hq1',?_⟩
  refine⟨_,rfl,_,rfl,c,2,60,rfl,by decide,by decide,by decide,fun d3 _ _=>?_⟩
  refine⟨_,rfl,md,_,rfl,.inl (zP.of M.mad),_,_,rfl,rfl,pm,?_⟩
  have b0:=zub d3 (show((ps.map V.ref).length:Int)≠0 by omega)
  have b1:=zt7 d3 pm
  obtain⟨q2,hq2,hq2'⟩:=LK (ps:=ps) (i:=d3%((ps.map V.ref).length:Nat)) (by rw[lm] at b0 b1 ⊢;omega) (by rw[lm] at b0 b1 ⊢;omega)
  refine⟨md,_,_,_,rfl,rfl,zP.of M.mad,hq2',?_⟩
  refine⟨_,rfl,_,rfl,c,3,40320,rfl,by decide,by decide,by decide,fun d4 _ _=>?_⟩
  obtain⟨x,hx,hx'⟩:=K7 o0 d4
  refine⟨_,rfl,ol,_,rfl,.inl hO2,_,_,rfl,rfl,pl,ol,_,_,.str x,rfl,rfl,hO2,hx',?_⟩
  obtain⟨s1,s1m,s1i,s1o,s1d⟩:=N.all q1 hq1
  obtain⟨s2,s2m,s2i,s2o,s2d⟩:=N.all q2 hq2
  have no:∀c:Sn,c∈([]:List Sn)->c∈ss:=fun c hc=>absurd hc ztT
  have on:∀c:Sn,c∈[s1]->c∈ss:=fun c hc=>by rw[List.mem_singleton.mp hc];exact s1m
  have big:ps.length<sizeLine:=Nat.lt_of_le_of_lt (show ps.length<=100 by omega) (by decide)
  have zgo:(ps.map V.ref).length<sizeLine:=by rw[zts];exact big
  have mdu:∀(p:Addr) (o:HO),H' p=none->(upd H' p o) md=some (.lst (ps.map V.ref)):=fun p o hp=>by rw[zB (zy M.mad hp)];exact M.mad
  have fin:∀(p:Addr) (xs:List V) (s':Sn),H' p=none->T8 (upd H' p (.tup xs)) s' p->s'.QF os->s'.depth<=i+1+1->Few (ss++[s']) ->
    ∃(ps':List Addr) (ss':List Sn) (f1 f2 f3 f4 f5 f6:Option V),zcr H (upd (upd H' p (.tup xs)) md (.lst (ps.map V.ref++[.ref p]))) os md kd ps' (i+1+1) ss'/\ps'.length=i+1+1 /\
     [some (.ref sc),some (.int t),some (.int m),some (.ref ol),some (.ref kd),some (.ref md),some (.int (1+(i:Nat))),some (.int c),some (.str kind),some (.ref q1),some (.ref q2),some (.str x)]=[some (.ref sc),some (.int t),some (.int m),some (.ref ol),some (.ref kd),some (.ref md),f1,f2,f3,f4,f5,f6]:=fun p xs s' hp hs ho hd fw=>by
   have:=N.push f0 hp hs ho hd nk fw
   rw[ztG] at this
   exact⟨ps++[p],_,_,_,_,_,_,_,this,by simp[lp],rfl⟩
  refine⟨_,rfl,rfl,_,rfl,z8 (fun c1=>?_) (fun c1=>?_)⟩
  ·have ek:kind="yes" := by have:=of_decide_eq_true c1;cases this;rfl
   subst ek
   refine Xi ⟨_,rfl,.inl ⟨rfl,_,zP.of M.mad⟩,_,rfl,by show 1<=sizeLine;decide,fun p hp=>⟨md,_,_,rfl,rfl,mdu p _ hp,zgo,?_⟩⟩
   exact fin p _ (.c0 true) hp zf trivial (by show 1<=_;omega) (N.few.push [] [] no (fun x hx=>absurd hx ztT) (by decide))
  have n1:kind ≠ "yes" := fun e=>c1 (decide_eq_true (by rw[e]))
  refine⟨_,rfl,rfl,_,rfl,z8 (fun c2=>?_) (fun c2=>?_)⟩
  ·have ek:kind="no" := by have:=of_decide_eq_true c2;cases this;rfl
   subst ek
   refine⟨_,rfl,.inl ⟨rfl,_,zP.of M.mad⟩,_,rfl,by show 1<=sizeLine;decide,fun p hp=>⟨md,_,_,rfl,rfl,mdu p _ hp,zgo,?_⟩⟩
   exact fin p _ (.c0 false) hp zf trivial (by show 1<=_;omega) (N.few.push [] [] no (fun x hx=>absurd hx ztT) (by decide))
  have n2:kind ≠ "no" := fun e=>c2 (decide_eq_true (by rw[e]))
  refine⟨_,rfl,rfl,_,rfl,z8 (fun c3=>?_) (fun c3=>?_)⟩
  ·have ek:kind="mark" := by have:=of_decide_eq_true c3;cases this;rfl
   subst ek
   refine⟨_,rfl,.inl ⟨rfl,_,zP.of M.mad⟩,_,rfl,by show 2<=sizeLine;decide,fun p hp=>⟨md,_,_,rfl,rfl,mdu p _ hp,zgo,?_⟩⟩
   exact fin p _ (.mk x) hp zf hx (by show 1<=_;omega) (N.few.push [] [x] no (fun x hx=>.inl hx) (by show 2*1+0<=2;decide))
  have n3:kind ≠ "mark" := fun e=>c3 (decide_eq_true (by rw[e]))
  refine⟨_,rfl,rfl,_,rfl,z8 (fun c4=>?_) (fun c4=>?_)⟩
  ·have ek:kind="not" := by have:=of_decide_eq_true c4;cases this;rfl
   subst ek
   refine⟨_,rfl,.inl ⟨rfl,_,zP.of M.mad⟩,_,rfl,by show 2<=sizeLine;decide,fun p hp=>⟨md,_,_,rfl,rfl,mdu p _ hp,zgo,?_⟩⟩
   exact fin p _ (.nt s1) hp ⟨q1,zf,s1i.mono (yN.new hp _)⟩ s1o (by show 1+s1.depth<=_;omega) (N.few.push [s1] [] on (fun x hx=>.inr ⟨s1,List.mem_singleton.mpr rfl,hx⟩) (by show 2*0+1<=2;decide))
  have n4:kind ≠ "not" := fun e=>c4 (decide_eq_true (by rw[e]))
  refine⟨_,rfl,rfl,_,rfl,z8 (fun c5=>?_) (fun c5=>?_)⟩
  ·have ek:kind="some" := by have:=of_decide_eq_true c5;cases this;rfl
   subst ek
   refine Xi ⟨_,rfl,.inl ⟨rfl,_,zP.of M.mad⟩,_,rfl,_,rfl,_,rfl,by show 3<=sizeLine;decide,fun p hp=>⟨md,_,_,rfl,rfl,mdu p _ hp,zgo,?_⟩⟩
   exact fin p _ (.q1 true x s1) hp ⟨q1,zf,s1i.mono (yN.new hp _)⟩ ⟨hx,s1o⟩ (by show 1+s1.depth<=_;omega) (N.few.push [s1] [] on (fun x hx=>.inr ⟨s1,List.mem_singleton.mpr rfl,hx⟩) (by show 2*0+1<=2;decide))
  have n5:kind ≠ "some" := fun e=>c5 (decide_eq_true (by rw[e]))
  refine⟨_,rfl,rfl,_,rfl,z8 (fun c6=>?_) (fun c6=>?_)⟩
  ·have ek:kind="each" := by have:=of_decide_eq_true c6;cases this;rfl
   subst ek
   refine⟨_,rfl,.inl ⟨rfl,_,zP.of M.mad⟩,_,rfl,_,rfl,_,rfl,by show 3<=sizeLine;decide,fun p hp=>⟨md,_,_,rfl,rfl,mdu p _ hp,zgo,?_⟩⟩
   exact fin p _ (.q1 false x s1) hp ⟨q1,zf,s1i.mono (yN.new hp _)⟩ ⟨hx,s1o⟩ (by show 1+s1.depth<=_;omega) (N.few.push [s1] [] on (fun x hx=>.inr ⟨s1,List.mem_singleton.mpr rfl,hx⟩) (by show 2*0+1<=2;decide))
  have n6:kind ≠ "each" := fun e=>c6 (decide_eq_true (by rw[e]))
  obtain⟨o,ho⟩:∃o:Fin 4,kind=w2 o:=by
   have:kind∈([Str.ofString "mark", Str.ofString "mark", Str.ofString "not", Str.ofString "and", Str.ofString "or", Str.ofString "either", Str.ofString "if", Str.ofString "and", Str.ofString "or", Str.ofString "some", Str.ofString "each", Str.ofString "yes", Str.ofString "no", Str.ofString "mark"]:List Str):=hkm
   simp only[List.mem_cons,ztT,or_false] at this
   rcases this with h | h | h | h | h | h | h | h | h | h | h | h | h | h<;>first | exact absurd h n1 | exact absurd h n2 | exact absurd h n3 | exact absurd h n4 | exact absurd h n5 | exact absurd h n6 | exact⟨0,h⟩ | exact⟨1,h⟩ | exact⟨2,h⟩ | exact⟨3,h⟩
  subst ho
  refine⟨_,rfl,.inl ⟨rfl,_,zP.of M.mad⟩,_,rfl,_,rfl,_,rfl,by show 3<=sizeLine;decide,fun p hp=>⟨md,_,_,rfl,rfl,mdu p _ hp,zgo,?_⟩⟩
  exact fin p _ (.b2 o s2 s1) hp ⟨q2,q1,zf,s2i.mono (yN.new hp _),s1i.mono (yN.new hp _)⟩ ⟨s2o,s1o⟩ (by show 1+max s2.depth s1.depth<=_;omega) (N.few.push [s2,s1] [] (fun c hc=>by rcases List.mem_cons.mp hc with rfl | hc;exact s2m;rw[List.mem_singleton.mp hc];exact s1m) (fun x hx=>.inr ((List.mem_append.mp hx).elim (fun z=>⟨s2,ztM,z⟩) (fun z=>⟨s1,ztD _ (List.mem_singleton.mpr rfl),z⟩))) (by show 2*0+2<=2;decide))
 ·rintro σ H' ⟨ps,ss,f1,f2,f3,f4,f5,f6,N,lp,rfl⟩
  have M:=N.M
  obtain⟨p,hp,hp'⟩:=LK (ps:=ps) (i:=-1) (by omega) (by omega)
  obtain⟨s',z0,z1,z2,z3⟩:=N.all p hp
  obtain⟨P',w1,w2⟩:=N.few.last z0
  rw[N.len,lp] at w1
  have e:((m:Int)-1).toNat+1=m:=by omega
  rw[e] at z3
  exact⟨_,rfl,1,rfl,md,_,-1,_,rfl,rfl,zP.of M.mad,hp',q p H' s' M.old z1 z2 z3 ⟨P',by omega,w2⟩⟩
theorem zgp (T:Txt P w K mg a):zE P w K mg base zW (k+1) a.Ug a.Uh X3 V4:=by
 refine T.Kz.F.ok zgj (fun vs H Q E h=>?_) (fun cdv A outer s H vs Q E hr h=>?_)
 ·obtain⟨x,rfl,_⟩:=h
  rfl
 obtain⟨x,rfl,q⟩:=h
 refine⟨_,(zm (zG (yV R9 (pv 0) (W8 (v:=.ref a.zaf) rfl T.zlw rfl) (by with_unfolding_all rfl)))),?_⟩
 refine⟨_,rfl,a.zaf,ud.map V.str,rfl,.inr (T.zlx H),rfl,Ym _,?_⟩
 show Q (.bl (inV (.str x) (ud.map V.str))) H
 rw[Mg]
 exact q
theorem zfc (T:Txt P w K mg a)(KC:zE P w K mg base zW k a.Ug a.Uh X3 V4):zE P w K mg base zW (k+1) a.Nk a.Nm U8 (Ka K):=by
 refine T.zbd.F.ok zeU (fun vs H Q E h=>?_) (fun cdv A outer s H vs Q E hr h=>?_)
 ·obtain⟨l,os,rfl,_⟩:=h
  rfl
 obtain⟨l,os,rfl,hq,h100,q⟩:=h
 refine⟨_,(zm (zG (Sh (yV zbZ (zF zH rfl T.yJ yc (za (pv 0) zc)) zx (zR _)) (Sh (zF (wV rfl) rfl T.Um Yk (za (vH (wO:=zq Nf) (js:=[]) rfl (by show uZ _ _ "letter" [];exact Ja (by decide +kernel)) rfl (yh (pv 0)) (by show ∀j∈([]:List Nat),j<1;decide) (fun cl C s₂ H₂ fp=>(zp KC hr T.Kz (za (pv 0) zc)))) zc)) (Pn (yV xu (zF call_len_set' rfl T.yJ yc (za (xT (zi0 rfl) rfl T.zl4 zi3 (za (pv 0) zc)) zc)) (zF zH rfl T.yJ yc (za (pv 0) zc)) (zR _))))))),?_⟩
 have hlen:(os.map V.str).length=os.length:=zts _
 refine⟨_,rfl,l,_,rfl,.inl hq,_,_,rfl,rfl,_,rfl,z8 (fun c=>?_) (fun c=>?_)⟩
 ·have c':0<os.length:=by have:=of_decide_eq_true c;rw[hlen] at this;omega
  refine⟨_,rfl,l,rfl,⟨_,hq⟩,zc6 (fun x v=>v=(match x with | .str y=>.bl (decide (y∈ud)) | _=>.non)) hq (by rw[hlen];exact ztL (zN (by omega))) ?_ (zja K9) ?_⟩
  ·intro i x H' hx g
   rw[ztu] at hx
   cases ho:os[i]? with
   | none=>rw[ho] at hx;cases hx
   | some y =>
    rw[ho] at hx
    cases hx
    exact⟨_,rfl,y,rfl,rfl,g⟩
  ·intro ys H' p hr' g hp
   have e:=LQ (f:=fun x=>match x with | .str y=>.bl (decide (y∈ud)) | _=>.non) hr'
   rw[zt4] at e
   have e2:ys=(os.map fun y=>decide (y∈ud)).map V.bl:=by rw[e,zt4];rfl
   subst e2
   have g1:=Same.new hp (.lst ((os.map fun y=>decide (y∈ud)).map V.bl))
   refine⟨p,_,rfl,zP.of zf,_,rfl,z8 (fun c2=>?_) (fun c2=>?_)⟩
   ·have hq2:=(g.trans g1).seq hq
    refine⟨_,rfl,l,os,rfl,hq2,h100,fun z hz=>⟨z,_,rfl,zf,?_⟩⟩
    have g2:=Same.new hz (zkI P w z (dd os).length)
    refine⟨_,rfl,l,_,rfl,.inl (g2.seq hq2),rfl,?_⟩
    have e3:decide (V.int ((dd os).length:Nat)=V.int ((os.map V.str).length:Nat))=zc9 os:=by
     unfold zc9
     have c2':os.all (fun x=>decide (x∈ud))=true:=by rw[List.all_map] at c2;exact c2
     rw[decide_eq_true c',c2',hlen]
     by_cases nd:os.Nodup
     ·rw[decide_eq_true nd,zef nd];simp
     ·have:=zmH nd
      rw[decide_eq_false nd,decide_eq_false (fun z=>by injection z with z;omega)];rfl
    rw[e3]
    exact q _ ((g.trans g1).trans g2)
   ·have e4:zc9 os=false:=by
     unfold zc9
     have c2':os.all (fun x=>decide (x∈ud))=false:=by
      rw[List.all_map] at c2
      exact Bool.eq_false_iff.mpr c2
     rw[c2',Bool.false_and,Bool.and_false]
    rw[<-e4]
    exact q _ (g.trans g1)
 ·have e4:zc9 os=false:=by
   unfold zc9
   rw[decide_eq_false (fun z=>c (decide_eq_true (by rw[hlen];omega))),Bool.false_and]
  rw[<-e4]
  exact q _ (Same.refl _)
theorem zbI (T:Txt P w K mg a):zE P w K mg base zW (k+1) a.ZW a.ZX uM Y8:=by
 refine T.Tq.F.ok zbD (fun vs H Q E h=>?_) (fun cdv A outer s H vs Q E hr h=>?_)
 ·obtain⟨p,x,m,n,rest,rfl,_⟩:=h
  rfl
 obtain⟨p,x,m,n,rest,rfl,hp,hm,hl,q⟩:=h
 refine⟨_,(zm (zG (u6 ziL (pv 0) (Zz zx) (Zz (zL wH zx (yq wI (yq (zcZ T.W2.d) (W8 (v:=.ref a.Ui) rfl T.Le rfl) (yq wI (pv 0) zx (fun _ _=>rfl)) (fun _ _=>rfl)) zx (fun _ _=>rfl))))))),?_⟩
 obtain⟨pt,hv,hpt⟩:=T.W2.y x m n hm
 refine⟨_,rfl,1,rfl,_,rfl,p,_,0,_,rfl,rfl,wG.of hp,at0,x,.ref pt,.ref pt,rfl,rfl,hv,rfl,pt,_,0,_,rfl,rfl,hpt H,at0,1,(m:Int),rfl,rfl,_,rfl,p,_,rfl,wG.of hp,zaA (by decide),fun z hz=>?_⟩
 rw[zjb hl]
 exact q z hz
theorem zfd (T:Txt P w K mg a):zE P w K mg base zW (k+1) a.Zk a.Zm uE Yn:=by
 refine T.Tr.F.ok zeV (fun vs H Q E h=>?_) (fun cdv A outer s H vs Q E hr h=>?_)
 ·obtain⟨p,x,m,n,rest,rfl,_⟩:=h
  rfl
 obtain⟨p,x,m,n,rest,rfl,hp,hm,hl,q⟩:=h
 refine⟨_,(zm (zG (u6 ziL (pv 0) (Zz (zL wH zx (yq wI (yq (zcZ T.W2.d) (W8 (v:=.ref a.Ui) rfl T.Le rfl) (yq wI (pv 0) zx (fun _ _=>rfl)) (fun _ _=>rfl)) zx (fun _ _=>rfl)))) Xw))),?_⟩
 obtain⟨pt,hv,hpt⟩:=T.W2.y x m n hm
 refine⟨_,rfl,_,rfl,p,_,0,_,rfl,rfl,wG.of hp,at0,x,.ref pt,.ref pt,rfl,rfl,hv,rfl,pt,_,0,_,rfl,rfl,hpt H,at0,1,(m:Int),rfl,rfl,_,rfl,p,_,rfl,wG.of hp,zaA (by omega),fun z hz=>?_⟩
 rw[zjc hl]
 exact q z hz
theorem JM (T:Txt P w K mg a)(uK:zE P w K mg base zW k a.Zk a.Zm uE Yn):zE P w K mg base zW (k+1) a.Z0 a.Z1 uF (Xz K):=by
 refine T.WT.F.ok Xj (fun vs H Q E h=>?_) (fun cdv A outer s H vs Q E hr h=>?_)
 ·obtain⟨l,ss,ps,rfl,_⟩:=h
  rfl
 obtain⟨l,ss,ps,rfl,hl,hp,hz,q⟩:=h
 refine⟨_,(zj (zJ 1 Xj.nd (yK zc))
   (zj (xJ PassesOwn.never rfl (yh (pv 0)) (z9 (i:=2) Xj.nd rfl (Or.inl rfl)) (zm (yu (uw PySem.F.plainAttrs_list PySem.F.slot_list_extend PySem.F.type_list_extend zas (pv 1) (za (zp uK hr T.Tr (za (pv 2) zc)) zc)))))
   (zm (zG (pv 1))))),?_⟩
 have pl:=xK hp
 refine⟨by show 0<=sizeLine;decide,fun f hf=>?_⟩
 have g0:=Same.new hf (.lst [])
 refine⟨_,rfl,l,rfl,⟨_,g0.seq hl⟩,?_⟩
 refine wR (xs:=ps.map V.ref) (fun i σ H'=>∃(qs:List Addr) (f1:Option V),Same H H'/\H' f=some (.lst (qs.map V.ref))/\Paired (T8 H') ((ss.take i).flatMap Sn.parts) qs/\qs.length<=2*i/\i<=ss.length/\σ=[some (.ref l),some (.ref f),f1])
  ⟨[],_,g0,zf,.nil,by simp,ztP _,rfl⟩ ?_ ?_ ?_
 ·rintro i σ H' _ ⟨qs,f1,g,_⟩
  exact g.seq hl
 ·rintro i x σ H' hx ⟨qs,f1,g,hf',hqs,lq,li,rfl⟩
  rw[ztu] at hx
  cases ho:ps[i]? with
  | none=>rw[ho] at hx;cases hx
  | some p =>
   rw[ho] at hx
   cases hx
   obtain⟨sn,hsn,Jt⟩:=K8 hp ho
   have hlt:=(ztv.mp hsn).1
   obtain⟨zs,c1,c2,c3,c4,c5⟩:=Qi (Jt.mono (yN.of g))
   have lz:=xK c2
   have lp2:=Sn.Mh sn
   refine⟨_,rfl,.inl ⟨rfl,_,zP.of hf'⟩,_,rfl,p,sn.word,sn.letters.length,sn.parts.length,_,rfl,c1,ZF sn,c3,fun b hb=>?_⟩
   rw[c5]
   have nfb:f≠b:=zy hf' hb
   have hf2:(upd H' b (.tup (zs.map V.ref))) f=some (.lst (qs.map V.ref)):=by rw[zB nfb];exact hf'
   refine⟨f,b,qs.map V.ref,zs.map V.ref,rfl,rfl,hf2,?_,?_,?_⟩
   ·exact wG.of zf
   ·rw[zts,zts]
    exact ztL (zN (by omega))
   ·refine⟨qs++zs,_,(g.trans (Same.new hb _)).over hf _,by rw[zf,ztG],?_,?_,hlt,rfl⟩
    ·rw[zY hsn,List.flatMap_append,List.flatMap_singleton]
     have t1:yN H' (upd (upd H' b (.tup (zs.map V.ref))) f (.lst (qs.map V.ref++zs.map V.ref))):=(yN.new hb _).trans (yN.lst hf2 _)
     exact Vs (wJ (fun _ _ z=>z.mono t1) hqs) (wJ (fun _ _ z=>z.mono t1) c2)
    ·rw[ztA];omega
 ·rintro σ H' ⟨qs,f1,g,hf',hqs,lq,li,rfl⟩
  rw[zts,<-pl,ztV] at hqs
  exact⟨_,rfl,q f H' qs g hf hf' hqs⟩
theorem zdN (T:Txt P w K mg a)(KC:zE P w K mg base zW k a.Ug a.Uh X3 V4)(Tv:zE P w K mg base zW k a.ZW a.ZX uM Y8)(uK:zE P w K mg base zW k a.Zk a.Zm uE Yn) :
  zE P w K mg base zW (k+1) a.RB a.RD Vg Mi:=by
 refine T.Jp.F.ok MJ (fun vs H Q E h=>?_) (fun cdv A outer s H vs Q E hr h=>?_)
 ·obtain⟨p,s,rfl,_⟩:=h
  rfl
 obtain⟨p,sn,rfl,Jt,hle,q⟩:=h
 refine⟨_,(zj (yr (PW.pt (Va (zO xu (zF zH rfl T.yJ yc (za (pv 0) zc)) zx (zR _)) (Va (vD (yE (zF vq rfl T.wD xP (za (yq wI (pv 0) zx (fun _ _=>rfl)) (za (W9 (v:=.ty "str") rfl T.zj8 zfM rfl) zc))) (fun _=>rfl))) (Wd (zO (zby T.W2.d) (yq wI (pv 0) zx (fun _ _=>rfl)) (W8 (v:=.ref a.Ui) rfl T.Le rfl) (by with_unfolding_all rfl)))))) (zm (zG wN)) zU)
   (zj (zJ 1 MJ.nd (yq (zcZ T.W2.d) (W8 (v:=.ref a.Ui) rfl T.Le rfl) (yq wI (pv 0) zx (fun _ _=>rfl)) (fun _ _=>rfl)))
   (zj (yr (zO V0 (zF zH rfl T.yJ yc (za (pv 0) zc)) (zL wH (zL wH zx (yq wI (pv 1) zx (fun _ _=>rfl))) (yq wI (pv 1) zx (fun _ _=>rfl))) (zR _)) (zm (zG wN)) zU)
   (zj (yr (vD (yE (zF (wV rfl) rfl T.Um Yk (za (vH (wO:=zq Vf) (js:=[]) rfl (by show uZ _ _ "letter" [];exact Ja (by decide +kernel)) rfl (zcN (zp Tv hr T.Tq (za (pv 0) zc))) (by show ∀j∈([]:List Nat),j<2;decide) (fun cl C s₂ H₂ fp=>(zp KC hr T.Kz (za (pv 0) zc)))) zc)) (fun _=>rfl))) (zm (zG wN)) zU)
   (zm (zG (zF (wV rfl) rfl T.Um Yk (za (vH (wO:=zq Vf) (js:=[]) rfl (by show uZ _ _ "part" [];exact Ja (by decide +kernel)) rfl (zcN (zp uK hr T.Tr (za (pv 0) zc))) (by show ∀j∈([]:List Nat),j<2;decide) (fun cl C s₂ H₂ fp=>(zF (zc7 (K:=K) rfl) rfl T.wD xP (za (pv 0) (za (W9 (v:=.ty "tuple") rfl T.zhu zeg rfl) zc))))) zc)))))))),?_⟩
 obtain⟨zs,c1,c2,c3,c4,c5⟩:=Qi Jt
 have lz:=xK c2
 obtain⟨pt,hv,hpt⟩:=T.W2.y _ _ _ (ZF sn)
 have lp2:=Sn.Mh sn
 have ll1:=Sn.zaB sn
 refine⟨_,rfl,p,_,rfl,.inr (wG.of c1),rfl,_,rfl,z8 (fun c=>?_) (fun _=>?_)⟩
 ·exfalso
  have:=of_decide_eq_true c
  injection this with this
  rw[ztE] at this
  omega
 refine⟨_,rfl,p,_,0,_,rfl,rfl,wG.of c1,at0,_,_,_,true,rfl,.str sn.word,rfl,_,rfl,Zi ?_⟩
 refine⟨_,rfl,p,_,0,_,rfl,rfl,wG.of c1,at0,sn.word,rfl,rfl,_,rfl,?_⟩
 rw[hv]
 refine Zi ?_
 refine⟨_,rfl,p,_,0,_,rfl,rfl,wG.of c1,at0,sn.word,.ref pt,.ref pt,rfl,rfl,hv,rfl,?_⟩
 refine⟨_,rfl,p,_,rfl,.inr (wG.of c1),_,rfl,pt,_,0,_,rfl,rfl,hpt H,at0,1,_,rfl,rfl,_,rfl,pt,_,1,_,rfl,rfl,hpt H,at1,_,_,rfl,rfl,rfl,_,rfl,z8 (fun c=>?_) (fun _=>?_)⟩
 ·exfalso
  have z:V.int ((VC sn zs).length:Nat)=V.int (1+((sn.letters.length:Nat):Int)+((sn.parts.length:Nat):Int)):=by
   congr 1
   show(((V.str sn.word::(sn.letters.map V.str++zs.map V.ref)).length:Nat):Int)=_
   rw[ztE,c3]
   omega
  have c':(!decide (V.int ((VC sn zs).length:Nat)=V.int (1+((sn.letters.length:Nat):Int)+((sn.parts.length:Nat):Int))))=true:=c
  rw[decide_eq_true z] at c'
  cases c'
 refine⟨_,rfl,p,sn.word,sn.letters.length,sn.parts.length,_,rfl,c1,ZF sn,c3,fun b hb=>?_⟩
 rw[c4]
 have g1:=Same.new hb (.tup (sn.letters.map V.str))
 refine⟨b,rfl,⟨_,wG.of zf⟩,zgV (xs:=sn.letters.map V.str) (fun _ v=>v=.bl true) (wG.of zf) (by rw[zts];exact ztL (zN (by omega))) ?_ (zja K9) ?_⟩
 ·intro i x H' hx g
  rw[ztu] at hx
  cases ho:sn.letters[i]? with
  | none=>rw[ho] at hx;cases hx
  | some y =>
   rw[ho] at hx
   cases hx
   refine⟨_,rfl,y,rfl,?_,g⟩
   rw[decide_eq_true (hle y (ztx ho))]
 intro ys H' p2 hr' g hp2
 have e:=LQ (f:=fun _=>.bl true) hr'
 have e2:ys=(sn.letters.map fun _=>true).map V.bl:=by rw[e,zt4,zt4];rfl
 subst e2
 have g2:=Same.new hp2 (.lst ((sn.letters.map fun _=>true).map V.bl))
 have ea:(sn.letters.map fun _=>true).all id=true:=by rw[List.all_map,ztW];exact fun _ _=>rfl
 refine⟨p2,_,rfl,zP.of zf,_,rfl,?_⟩
 rw[ea]
 refine Zi ?_
 have gg:=(g1.trans g).trans g2
 have c1':=gg _ _ c1
 refine⟨_,rfl,p,sn.word,sn.letters.length,sn.parts.length,_,rfl,c1',ZF sn,c3,fun b3 hb3=>?_⟩
 rw[c5]
 have g3:=Same.new hb3 (.tup (zs.map V.ref))
 refine⟨b3,rfl,⟨_,wG.of zf⟩,zgV (xs:=zs.map V.ref) (fun _ v=>v=.bl true) (wG.of zf) (by rw[zts];exact ztL (zN (by omega))) ?_ ?_ ?_⟩
 ·intro i x H4 hx g4
  rw[ztu] at hx
  cases ho:zs[i]? with
  | none=>rw[ho] at hx;cases hx
  | some y =>
   rw[ho] at hx
   cases hx
   obtain⟨sy,_,iy⟩:=K8 c2 ho
   obtain⟨ws,d1,_⟩:=Qi iy
   have d1':=((gg.trans g3).trans g4) _ _ d1
   exact⟨_,rfl,_,_,_,true,rfl,.tup d1',rfl,rfl,g4⟩
 ·rintro σ' H' Q1 Q2 hQ ⟨v,e,x,T',t,b',h1,h2,h3,h4⟩
  exact⟨v,e,x,T',t,b',h1,h2,h3,hQ _ _ h4⟩
 ·intro ys H4 p4 hr4 g4 hp4
  have e:=LQ (f:=fun _=>.bl true) hr4
  have e2:ys=(zs.map fun _=>true).map V.bl:=by rw[e,zt4,zt4];rfl
  subst e2
  have ea:(zs.map fun _=>true).all id=true:=by rw[List.all_map,ztW];exact fun _ _=>rfl
  refine⟨p4,_,rfl,zP.of zf,?_⟩
  rw[ea]
  exact q _ (((gg.trans g3).trans g4).trans (Same.new hp4 _))
theorem zbf (T:Txt P w K mg a)(zfe:zE P w K mg base zW k a.RB a.RD Vg Mi)(W4:zE P w K mg base zW k a.Z0 a.Z1 uF (Xz K)) :
  zE P w K mg base zW (k+1) a.Vz a.VB YG zda:=by
 refine T.Pa.F.ok xV (fun vs H Q E h=>?_) (fun cdv A outer s H vs Q E hr h=>?_)
 ·obtain⟨p,s,rfl,_⟩:=h
  rfl
 obtain⟨p,sn,rfl,Jt,hin,hc,hd,q⟩:=h
 refine⟨_,(zj (zJ 1 xV.nd (yK (za (pv 0) zc)))
   (zj (zJ 2 xV.nd zx)
   (zj (zJ 3 xV.nd zx)
   (zj (zaj PassesOwn.never (zO zbZ (zF zH rfl T.yJ yc (za (pv 1) zc)) zx (zR _)) (zj (zfu (i:=2) xV.nd rfl (Or.inl rfl) zx zcO)
   (zj (zfu (i:=3) xV.nd rfl (Or.inl rfl) (zF zH rfl T.yJ yc (za (pv 1) zc)) zcO)
   (zj (yr (PW.pt (Va (zO zbZ (pv 2) (W8 (v:=.int 24) rfl T.ze9 ⟨_,rfl⟩) (zR _)) (Wd (zO zbZ (pv 3) (W8 (v:=.int 200) rfl T.zbH ⟨_,rfl⟩) (zR _))))) (zm (zG wN)) zU)
   (zj (yr (vD (yE (zF (wV rfl) rfl T.Um Yk (za (vH (wO:=zq Vv) (js:=[]) rfl (by show uZ _ _ "part" [];exact Ja (by decide +kernel)) rfl (yh (pv 1)) (by show ∀j∈([]:List Nat),j<4;decide) (fun cl C s₂ H₂ fp=>(zp zfe hr T.Jp (za (pv 0) zc)))) zc)) (fun _=>rfl))) (zm (zG wN)) zU)
   (zm (zJ 1 xV.nd (zp W4 hr T.WT (za (pv 1) zc)))))))))
   (zm (zG wN)))))),?_⟩
 refine⟨_,rfl,by show 1<=sizeLine;decide,fun l0 hl0=>?_⟩
 have g0:=Same.new hl0 (.lst [.ref p])
 refine⟨fun m σ H'=>∃(ss:List Sn) (ps:List Addr) (l:Addr) (d t:Nat),m=cnt ss/\Same H H'/\H' l=some (.lst (ps.map V.ref))/\Paired (T8 H') ss ps/\(∀u∈ss,u.QF ud/\d+u.depth<=24)/\t+cnt ss<=200/\σ=[some (.ref p),some (.ref l),some (.int d),some (.int t)],
  ⟨_,[sn],[p],l0,0,0,rfl,g0,zf,.cons (Jt.mono (yN.of g0)) .nil,?_,?_,rfl⟩,?_⟩
 ·intro u hu
  have e:u=sn:=by simpa using hu
  subst e
  exact⟨hin,by omega⟩
 ·show 0+(sn.count+0)<=200
  omega
 rintro m σ H' ⟨ss,ps,l,d,t,rfl,g,hl,hp,hi,ht,rfl⟩
 have lp:=xK hp
 have le:(ps.map V.ref).length=ss.length:=by rw[zts];exact lp.symm
 have cl:=zgW ss
 refine⟨_,rfl,l,_,rfl,.inl (zP.of hl),_,_,rfl,rfl,_,rfl,z8 (fun c=>?_) (fun c=>?_)⟩
 ·have c':0<ss.length:=by have:=of_decide_eq_true c;rw[le] at this;omega
  have hd1:d+1<=24:=by
   have hm:ss[0]∈ss:=zt9 c'
   have:=(hi _ hm).2
   have:=Sn.Qc ss[0]
   omega
  refine⟨_,fun σ' H2 h=>h,?_⟩
  refine⟨_,rfl,(d:Int),1,rfl,rfl,?_⟩
  refine⟨_,rfl,_,rfl,l,_,rfl,.inl (zP.of hl),(t:Int),_,rfl,rfl,?_⟩
  refine⟨_,rfl,_,_,rfl,rfl,_,rfl,z8 (fun c2=>?_) (fun _=>?_)⟩
  ·exfalso
   have:=of_decide_eq_true c2
   omega
  refine⟨_,rfl,_,_,rfl,rfl,_,rfl,z8 (fun c2=>?_) (fun _=>?_)⟩
  ·exfalso
   have:=of_decide_eq_true c2
   rw[le] at this
   omega
  refine⟨_,rfl,l,rfl,⟨_,zP.of hl⟩,zc6 (fun _ v=>v=.bl true) (zP.of hl) (by rw[le];exact ztL (zN (by omega))) ?_ (zja zek) ?_⟩
  ·intro i x H2 hx g2
   rw[ztu] at hx
   cases ho:ps[i]? with
   | none=>rw[ho] at hx;cases hx
   | some y =>
    rw[ho] at hx
    cases hx
    obtain⟨sy,hsy,iy⟩:=K8 hp ho
    exact⟨_,rfl,y,sy,rfl,iy.mono (yN.of g2),Sn.zeh sy (hi sy (ztx hsy)).1,fun H3 g3=>⟨rfl,g2.trans g3⟩⟩
  intro ys H2 p2 hr' g2 hp2
  have e:=LQ (f:=fun _=>.bl true) hr'
  have e2:ys=(ps.map fun _=>true).map V.bl:=by rw[e,zt4,zt4];rfl
  subst e2
  have g3:=Same.new hp2 (.lst ((ps.map fun _=>true).map V.bl))
  have ea:(ps.map fun _=>true).all id=true:=by rw[List.all_map,ztW];exact fun _ _=>rfl
  refine⟨p2,_,rfl,zP.of zf,_,rfl,?_⟩
  rw[ea]
  refine Zi ?_
  have gg:=g2.trans g3
  refine⟨_,rfl,l,ss,ps,rfl,gg.seq (zP.of hl),wJ (fun _ _ z=>z.mono (yN.of gg)) hp,by omega,fun l' H4 ps' g4 hn hl' hp'=>?_⟩
  have cp:=Qh ss
  refine⟨cnt (ss.flatMap Sn.parts),by omega,ss.flatMap Sn.parts,ps',l',d+1,t+(ps.map V.ref).length,rfl,(g.trans gg).trans g4,hl',hp',?_,by omega,rfl⟩
  intro u hu
  obtain⟨s',hs',hu'⟩:=LR.mp hu
  obtain⟨i1,i2⟩:=hi s' hs'
  have:=Sn.Sy s' u hu'
  exact⟨Sn.zb9 s' i1 u hu',by omega⟩
 ·exact q _ g
theorem KD (T:Txt P w K mg a)(zgq:zE P w K mg base zW k a.Nk a.Nm U8 (Ka K)):zE P w K mg base zW (k+1) a.Xl a.Xm Zc (SN K):=by
 refine T.TY.F.ok Kr (fun vs H Q E h=>?_) (fun cdv A outer s H vs Q E hr h=>?_)
 ·obtain⟨l,os,rfl,_⟩:=h
  rfl
 obtain⟨l,os,rfl,hq,ho,q⟩:=h
 refine⟨_,(zm (yr (vD (yE (zp zgq hr T.zbd (za (pv 0) zc)) (fun _=>rfl))) (zm Ss) zU)),?_⟩
 refine⟨_,rfl,l,os,rfl,hq,ztO ho.le (by decide),fun H' g=>⟨_,rfl,?_⟩⟩
 rw[zkT ho]
 exact Zi (q H' g)
theorem QM (T:Txt P w K mg a)(zbJ:zE P w K mg base zW k a.Vz a.VB YG zda):zE P w K mg base zW (k+1) a.Zn a.Zo vJ Kc:=by
 refine T.WW.F.ok QL (fun vs H Q E h=>?_) (fun cdv A outer s H vs Q E hr h=>?_)
 ·obtain⟨p,s,rfl,_⟩:=h
  rfl
 obtain⟨p,sn,rfl,h1,h2,h3,h4,q⟩:=h
 refine⟨_,(zm (yr (vD (yE (zp zbJ hr T.Pa (za (pv 0) zc)) (fun _=>rfl))) (zm Ss) zU)),?_⟩
 exact⟨_,rfl,p,sn,rfl,h1,h2,h3,h4,fun H' g=>⟨_,rfl,Zi (q H' g)⟩⟩
theorem zdO (T:Txt P w K mg a)(W4:zE P w K mg base zW k a.Z0 a.Z1 uF (Xz K)):zE P w K mg base zW (k+1) a.RG a.RJ Vi Px:=by
 refine T.Jq.F.ok XF (fun vs H Q E h=>?_) (fun cdv A outer s H vs Q E hr h=>?_)
 ·obtain⟨p,s,rfl,_⟩:=h
  rfl
 obtain⟨p,sn,rfl,Jt,hc,q⟩:=h
 refine⟨_,(zj (zJ 1 XF.nd (yK zc))
   (zj (zJ 2 XF.nd (yK (za (pv 0) zc)))
   (zj (zaj PassesOwn.never (zO zbZ (zF zH rfl T.yJ yc (za (pv 2) zc)) zx (zR _)) (zj (yu (uw PySem.F.plainAttrs_list PySem.F.slot_list_extend PySem.F.type_list_extend Lz (pv 1) (za (pv 2) zc)))
   (zm (zJ 2 XF.nd (zp W4 hr T.WT (za (pv 2) zc))))))
   (zm (zG (pv 1)))))),?_⟩
 refine⟨by show 0<=sizeLine;decide,fun f hf=>?_⟩
 refine⟨_,rfl,by show 1<=sizeLine;decide,fun l0 hl0=>?_⟩
 have g0:=(Same.new hf (.lst [])).trans (Same.new hl0 (.lst [.ref p]))
 have nfl:f≠l0:=zy zf hl0
 refine⟨fun m σ H'=>∃(ts ss:List Sn) (qs ps:List Addr) (l:Addr),m=cnt ss/\Same H H'/\H' f=some (.lst (qs.map V.ref))/\H' l=some (.lst (ps.map V.ref))/\f≠l/\Paired (T8 H') ts qs/\Paired (T8 H') ss ps/\ts.length+cnt ss=sn.count /\
   (∀x,((∃t∈ts,x∈t.letters)\/∃u∈ss,x∈u.all)↔x∈sn.all)/\σ=[some (.ref p),some (.ref f),some (.ref l)],
  ⟨_,[],[sn],[],[p],l0,rfl,g0,by rw[zB nfl];exact zf,zf,nfl,.nil,.cons (Jt.mono (yN.of g0)) .nil,?_,?_,rfl⟩,?_⟩
 ·show 0+(sn.count+0)=sn.count
  omega
 ·intro x
  simp
 rintro m σ H' ⟨ts,ss,qs,ps,l,rfl,g,hf',hl,nfl,hts,hss,hcn,hle,rfl⟩
 have lt:=xK hts
 have lp:=xK hss
 have cl:=zgW ss
 have le:(ps.map V.ref).length=ss.length:=by rw[zts];exact lp.symm
 refine⟨_,rfl,l,_,rfl,.inl (zP.of hl),_,_,rfl,rfl,_,rfl,z8 (fun c=>?_) (fun c=>?_)⟩
 ·have c':0<ss.length:=by have:=of_decide_eq_true c;rw[le] at this;omega
  refine⟨_,fun σ' H2 h=>h,?_⟩
  refine⟨_,rfl,.inl ⟨rfl,_,zP.of hf'⟩,_,rfl,f,l,_,_,rfl,rfl,hf',hl,by rw[zts,zts];exact ztL (zN (by omega)),?_⟩
  have t1:yN H' (upd H' f (.lst (qs.map V.ref++ps.map V.ref))):=yN.lst hf' _
  have g1:Same H (upd H' f (.lst (qs.map V.ref++ps.map V.ref))):=g.over hf _
  have hl1:(upd H' f (.lst (qs.map V.ref++ps.map V.ref))) l=some (.lst (ps.map V.ref)):=by rw[zB (Ne.symm nfl)];exact hl
  refine⟨_,rfl,l,ss,ps,rfl,zP.of hl1,wJ (fun _ _ z=>z.mono t1) hss,by omega,fun l' H3 ps' g3 hn hl' hp'=>?_⟩
  have cp:=Qh ss
  have t3:=t1.trans (yN.of g3)
  refine⟨cnt (ss.flatMap Sn.parts),by omega,ts++ss,ss.flatMap Sn.parts,qs++ps,ps',l',rfl,g1.trans g3,by rw[ztG];exact g3 _ _ zf,hl',zy zf hn,
   Vs (wJ (fun _ _ z=>z.mono t3) hts) (wJ (fun _ _ z=>z.mono t3) hss),hp',by rw[ztA];omega,fun x=>?_,rfl⟩
  rw[<-hle x]
  constructor
  ·rintro (⟨t,ht,hx⟩ | ⟨u,hu,hx⟩)
   ·rcases List.mem_append.mp ht with z | z
    ·exact .inl ⟨t,z,hx⟩
    ·exact .inr ⟨t,z,(Sn.zc8 t x).mpr (.inl hx)⟩
   ·obtain⟨s',hs',hu'⟩:=LR.mp hu
    exact .inr ⟨s',hs',(Sn.zc8 s' x).mpr (.inr ⟨u,hu',hx⟩)⟩
  ·rintro (⟨t,ht,hx⟩ | ⟨u,hu,hx⟩)
   ·exact .inl ⟨t,List.mem_append_left _ ht,hx⟩
   ·rcases (Sn.zc8 u x).mp hx with z | ⟨v,hv,z⟩
    ·exact .inl ⟨u,ztJ _ hu,z⟩
    ·exact .inr ⟨v,LR.mpr ⟨u,hu,hv⟩,z⟩
 ·have c':ss=[]:=by
   have:¬ 0<ss.length:=fun z=>c (decide_eq_true (by rw[le];omega))
   exact List.length_eq_zero_iff.mp (by omega)
  subst c'
  refine⟨_,rfl,q f H' ts qs g hf hf' hts ?_ fun x=>?_⟩
  ·have:cnt []=0:=rfl
   omega
  ·rw[<-hle x]
   constructor
   ·exact fun z=>.inl z
   ·rintro (z | ⟨u,hu,_⟩)
    ·exact z
    ·cases hu
theorem zbK (T:Txt P w K mg a)(zff:zE P w K mg base zW k a.RG a.RJ Vi Px)(Tv:zE P w K mg base zW k a.ZW a.ZX uM Y8):zE P w K mg base zW (k+1) a.Te a.Tg XH SQ:=by
 refine T.Lb.F.ok Vw (fun vs H Q E h=>?_) (fun cdv A outer s H vs Q E hr h=>?_)
 ·obtain⟨p,s,rfl,_⟩:=h
  rfl
 obtain⟨p,sn,rfl,Jt,hc,q⟩:=h
 refine⟨_,(zj (zJ 1 Vw.nd (yK zc))
   (zj (xJ PassesOwn.never rfl (yh (zp zff hr T.Jq (za (pv 0) zc))) (z9 (i:=2) Vw.nd rfl (Or.inl rfl)) (zm (yu (uw PySem.F.plainAttrs_list PySem.F.slot_list_extend PySem.F.type_list_extend zas (pv 1) (za (zp Tv hr T.Tq (za (pv 2) zc)) zc)))))
   (zm (zG (pv 1))))),?_⟩
 refine⟨by show 0<=sizeLine;decide,fun f hf=>?_⟩
 have g0:=Same.new hf (.lst [])
 refine⟨_,rfl,p,sn,rfl,Jt.mono (yN.of g0),hc,fun l H1 ts ps g1 hn hl hts htl hle=>?_⟩
 have nfl:f≠l:=zy zf hn
 have lt:=xK hts
 refine⟨l,rfl,⟨_,zP.of hl⟩,?_⟩
 refine wR (xs:=ps.map V.ref) (fun i σ H'=>∃(f1:Option V),Same H H'/\H' f=some (.lst (((ts.take i).flatMap Sn.letters).map V.str))/\H' l=some (.lst (ps.map V.ref))/\Paired (T8 H') ts ps/\((ts.take i).flatMap Sn.letters).length<=i/\i<=ts.length/\σ=[some (.ref p),some (.ref f),f1])
  ⟨_,g0.trans g1,g1 _ _ zf,hl,hts,by simp,ztP _,rfl⟩ ?_ ?_ ?_
 ·rintro i σ H' _ ⟨f1,g,hf',hl',_⟩
  exact zP.of hl'
 ·rintro i x σ H' hx ⟨f1,g,hf',hl',hts',lq,li,rfl⟩
  rw[ztu] at hx
  cases ho:ps[i]? with
  | none=>rw[ho] at hx;cases hx
  | some pp =>
   rw[ho] at hx
   cases hx
   obtain⟨sy,hsy,iy⟩:=K8 hts' ho
   have hlt:=(ztv.mp hsy).1
   obtain⟨zs,c1,c2,c3,c4,c5⟩:=Qi iy
   have l1:=Sn.zaB sy
   refine⟨_,rfl,.inl ⟨rfl,_,zP.of hf'⟩,_,rfl,pp,sy.word,sy.letters.length,sy.parts.length,_,rfl,c1,ZF sy,c3,fun b hb=>?_⟩
   rw[c4]
   have hf2:(upd H' b (.tup (sy.letters.map V.str))) f=some (.lst (((ts.take i).flatMap Sn.letters).map V.str)):=by rw[zB (zy hf' hb)];exact hf'
   refine⟨f,b,_,sy.letters.map V.str,rfl,rfl,hf2,wG.of zf,?_,?_⟩
   ·rw[zts,zts]
    exact ztL (zN (by omega))
   ·have t1:yN H' (upd (upd H' b (.tup (sy.letters.map V.str))) f (.lst (((ts.take i).flatMap Sn.letters).map V.str++sy.letters.map V.str))):=(yN.new hb _).trans (yN.lst hf2 _)
    have e:(ts.take (i+1)).flatMap Sn.letters=(ts.take i).flatMap Sn.letters++sy.letters:=by rw[zY hsy,List.flatMap_append,List.flatMap_singleton]
    refine⟨_,(g.trans (Same.new hb _)).over hf _,by rw[zf,e,ztG],?_,wJ (fun _ _ z=>z.mono t1) hts',by rw[e,ztA];omega,hlt,rfl⟩
    rw[zB (Ne.symm nfl),zB (zy hl' hb)]
    exact hl'
 ·rintro σ H' ⟨f1,g,hf',hl',hts',lq,li,rfl⟩
  rw[zts,<-lt,ztV] at hf' lq
  refine⟨_,rfl,q f H' _ g hf hf' (fun x=>?_) (by omega)⟩
  rw[<-hle x,List.mem_flatMap]
theorem Lf (T:Txt P w K mg a):zE P w K mg base zW (k+1) a.uQ a.uR vd (UG K):=by
 refine T.Uk.F.ok MK (fun vs H Q E h=>?_) (fun cdv A outer s H vs Q E hr h=>?_)
 ·obtain⟨l,x,os,rfl,_⟩:=h
  rfl
 obtain⟨l,x,os,rfl,hO,hx,q⟩:=h
 refine⟨_,(zm (yr (zO Us (pv 1) (pv 0) (by with_unfolding_all rfl)) (zm Ss) zU)),?_⟩
 refine⟨_,rfl,_,rfl,l,_,rfl,.inl hO,rfl,Ym _,_,rfl,?_⟩
 have e:(if true=true then !inV (.str x) (os.map V.str) else inV (.str x) (os.map V.str))=false:=by
  rw[if_pos rfl,Mg,decide_eq_true hx];rfl
 rw[e]
 exact Zi q
theorem Nu (T:Txt P w K mg a)(zdP:zE P w K mg base zW k a.Te a.Tg XH SQ)(KH:zE P w K mg base zW k a.uQ a.uR vd (UG K)):zE P w K mg base zW (k+1) a.Z2 a.Z4 uh (SX K):=by
 refine T.Vp.F.ok Ws (fun vs H Q E h=>?_) (fun cdv A outer s H vs Q E hr h=>?_)
 ·obtain⟨l,p,os,s,rfl,_⟩:=h
  rfl
 obtain⟨l,p,os,sn,rfl,hO,Jt,hc,hin,q⟩:=h
 refine⟨_,(zm (xJ PassesOwn.never rfl (yh (zp zdP hr T.Lb (za (pv 1) zc))) (z9 (i:=2) Ws.nd rfl (Or.inl rfl)) (zm (yu (zp KH hr T.Uk (za (pv 0) (za (pv 2) zc))))))),?_⟩
 refine⟨_,rfl,p,sn,rfl,Jt,hc,fun f H1 xs g1 hn hl hmem hxl=>?_⟩
 refine⟨f,rfl,⟨_,zP.of hl⟩,?_⟩
 refine wR (xs:=xs.map V.str) (fun i σ H'=>∃f1:Option V,H'=H1/\σ=[some (.ref l),some (.ref p),f1]) ⟨_,rfl,rfl⟩ ?_ ?_ ?_
 ·rintro i σ H' _ ⟨f1,rfl,_⟩
  exact zP.of hl
 ·rintro i x σ H' hx ⟨f1,rfl,rfl⟩
  rw[ztu] at hx
  cases ho:xs[i]? with
  | none=>rw[ho] at hx;cases hx
  | some y =>
   rw[ho] at hx
   cases hx
   have hy:y∈os:=(Sn.Uz sn).mp hin y ((hmem y).mp (ztx ho))
   exact⟨_,rfl,_,rfl,l,y,os,rfl,g1.seq hO,hy,_,rfl,rfl⟩
 ·rintro σ H' ⟨f1,rfl,rfl⟩
  exact q _ g1
theorem JN (T:Txt P w K mg a):zE P w K mg base zW (k+1) a.uH a.uI vf zel:=by
 refine T.RT.F.ok JC (fun vs H Q E h=>?_) (fun cdv A outer s H vs Q E hr h=>?_)
 ·obtain⟨o,N,M,n,f,g,rfl,_⟩:=h
  rfl
 obtain⟨o,N,M,n,f,g,rfl,hN,hM,q⟩:=h
 refine⟨_,(zj (yr (zO xu (pv 0) zZ (zR _)) (zm (zG (zL tZ (pv 1) (pv 2)))) zU)
   (zj (yr (zO xu (pv 0) zZ (zR _)) (zm (zG (zL Vr (pv 1) (pv 2)))) zU)
   (zj (yr (zO xu (pv 0) zZ (zR _)) (zm (zG (zL Qe (pv 1) (pv 2)))) zU)
   (zm (zG (zL Vr (zL Qe (pv 3) (pv 1)) (pv 2))))))),?_⟩
 rcases zmK o with e | e | e | e
 ·subst e
  exact⟨_,rfl,rfl,_,rfl,z8 (fun _=>⟨_,rfl,_,rfl,N,M,rfl,rfl,q _ (tY hN hM)⟩) (fun c=>absurd (decide_eq_true rfl) c)⟩
 ·subst e
  refine⟨_,rfl,rfl,_,rfl,z8 (fun c=>absurd c (ne_str (show Str.ofString "or" ≠ Str.ofString "and" by decide +kernel))) (fun _=>?_)⟩
  exact⟨_,rfl,rfl,_,rfl,z8 (fun _=>⟨_,rfl,_,rfl,N,M,rfl,rfl,q _ (SJ hN hM)⟩) (fun c=>absurd (decide_eq_true rfl) c)⟩
 ·subst e
  refine⟨_,rfl,rfl,_,rfl,z8 (fun c=>absurd c (ne_str (show Str.ofString "either" ≠ Str.ofString "and" by decide +kernel))) (fun _=>?_)⟩
  refine⟨_,rfl,rfl,_,rfl,z8 (fun c=>absurd c (ne_str (show Str.ofString "either" ≠ Str.ofString "or" by decide +kernel))) (fun _=>?_)⟩
  exact⟨_,rfl,rfl,_,rfl,z8 (fun _=>⟨_,rfl,_,rfl,N,M,rfl,rfl,q _ (Uy hN hM)⟩) (fun c=>absurd (decide_eq_true rfl) c)⟩
 ·subst e
  refine⟨_,rfl,rfl,_,rfl,z8 (fun c=>absurd c (ne_str (show Str.ofString "if" ≠ Str.ofString "and" by decide +kernel))) (fun _=>?_)⟩
  refine⟨_,rfl,rfl,_,rfl,z8 (fun c=>absurd c (ne_str (show Str.ofString "if" ≠ Str.ofString "or" by decide +kernel))) (fun _=>?_)⟩
  refine⟨_,rfl,rfl,_,rfl,z8 (fun c=>absurd c (ne_str (show Str.ofString "if" ≠ Str.ofString "either" by decide +kernel))) (fun _=>?_)⟩
  refine⟨_,rfl,_,rfl,_,N,rfl,rfl,_,rfl,_,M,rfl,rfl,q _ (yI (SJ (Uy (Ux n) hN) hM) fun b _=>?_)⟩
  show((true != f b)||g b)=(!f b||g b)
  cases f b<;>rfl
theorem zbL {d:Nat}(T:Txt P w K mg a)(yC:zE P w K mg base zW k a.vK a.vL wK uL)(xR:zE P w K mg base zW k a.vB a.vC wu ux)
  (uU:zE P w K mg base zW k a.X4 a.X5 Yq XM)(uK:zE P w K mg base zW k a.Zk a.Zm uE Yn)
  (Ye:zE P w K mg base zW k a.uH a.uI vf zel)
  (Nv:zE P w K mg base zW k a.WD a.WK Ys (UJ K d)):zE P w K mg base zW (k+1) a.WD a.WK Ys (UJ K (d+1)):=by
 refine T.Nr.F.ok Vj (fun vs H Q E h=>?_) (fun cdv A outer s H vs Q E hr h=>?_)
 ·obtain⟨p,l,sn,os,rfl,_⟩:=h
  rfl
 obtain⟨p,l,sn,os,rfl,Jt,hO,hin,h8,hd,q⟩:=h
 refine⟨_,(zj (zJ 2 Vj.nd (yq wI (pv 0) zx (fun _ _=>rfl)))
   (zj (zJ 3 Vj.nd (zF zH rfl T.yJ yc (za (pv 1) zc)))
   (zj (yr (zO xu (pv 2) zZ (zR _)) (zm (zG zx)) zU)
   (zj (yr (zO xu (pv 2) zZ (zR _)) (zm (zG (zp yC hr T.uJ (za (pv 3) zc)))) zU)
   (zj (yr (zO xu (pv 2) zZ (zR _)) (zm (zG (zp xR hr T.Xg (za (uw PySem.F.plainAttrs_list PySem.F.slot_list_index PySem.F.type_list_index Sx (pv 1) (za (yq wI (pv 0) zx (fun _ _=>rfl)) zc)) (za (pv 3) zc))))) zU)
   (zj (zaq (tt:=Sw) (i:=4) Vj.nd rfl (Or.inl rfl) (.inl rfl) (wO:=zq Ng) (js:=[1]) rfl (by show uZ _ _ "part" ["order"];exact Ja (by decide +kernel)) rfl (zcN (zp uK hr T.Tr (za (pv 0) zc))) (by show ∀j∈([1]:List Nat),j<5;decide) (fun cl C s₂ H₂ fp pins s' σ' H' Q I h=>wpAny_pure ⟨H',I,h⟩) (fun cl C s₂ H₂ fp=>(zp Nv hr T.Nr (za (pv 0) (za (pv 1) zc)))) rfl)
   (zj (yr (zO xu (pv 2) zZ (zR _)) (zm (zG (zL Qe (zp yC hr T.uJ (za (pv 3) zc)) (yq yQ (pv 4) zx (fun _ _=>rfl))))) zU)
   (zj (yr (zO xu (pv 2) zZ (zR _)) (zm (zG (zL Vr (yq yQ (pv 4) zx (fun _ _=>rfl)) (zp uU hr T.Uj (za (yq yQ (pv 4) zx (fun _ _=>rfl)) (za (uw PySem.F.plainAttrs_list PySem.F.slot_list_index PySem.F.type_list_index Sx (pv 1) (za (yq wI (pv 0) zx (fun _ _=>rfl)) zc)) (za (pv 3) zc))))))) zU)
   (zj (yr (zO xu (pv 2) zZ (zR _)) (zm (zG (zL tZ (yq yQ (pv 4) zx (fun _ _=>rfl)) (zp uU hr T.Uj (za (yq yQ (pv 4) zx (fun _ _=>rfl)) (za (uw PySem.F.plainAttrs_list PySem.F.slot_list_index PySem.F.type_list_index Sx (pv 1) (za (yq wI (pv 0) zx (fun _ _=>rfl)) zc)) (za (pv 3) zc))))))) zU)
   (zm (zG (zp Ye hr T.RT (za (pv 2) (za (yq yQ (pv 4) zx (fun _ _=>rfl)) (za (yq yQ (pv 4) zx (fun _ _=>rfl)) (za (zp yC hr T.uJ (za (pv 3) zc)) zc)))))))))))))))),?_⟩
 have hlen:(os.map V.str).length=os.length:=zts _
 obtain⟨zs,c1,c2,c3,c4,c5⟩:=Qi Jt
 have lz:=xK c2
 have lp2:=Sn.Mh sn
 refine⟨_,rfl,p,_,0,_,rfl,rfl,wG.of c1,at0,?_⟩
 refine⟨_,rfl,l,_,rfl,.inl hO,?_⟩
 rw[hlen]
 have comp:∀{σ:St} {Q2:Addr->Hp->List V->Prop},σ.getD 1 none=some (.ref l)->(∀(b:Addr) (ys:List V) (H':Hp),Same H H'->H' b=none->ys.length=sn.parts.length->(∀(j:Nat) v,ys[j]?=some v->∃t N,sn.parts[j]?=some t/\v=.int (N:Nat)/\TabOf os t N)->Q2 b H' ys) ->
   ∀b0,H b0=none->∃W:Nat->Nat->List V->Hp->Prop,(∃m,W 0 m [] (upd H b0 (.tup (zs.map V.ref))))/\∀i m ys H,W i m ys H ->
    ((Itt K b0).stop i H/\∀p,H p=none->Q2 p H ys) \/
    ((Itt K b0).go i H/\ys.length<sizeLine/\∀x H',(Itt K b0).R7 i H x H'->Sw (Zj σ [1] (some x)) H' fun b H2 =>
     if b=true then N5 (UJ K d) [] E0 (V1 (Sg 0) (V1 (Sg 1) zbu)) (Zj σ [1] (some x)) H2 fun v H3=>∃m',m'<m/\W (i+1) m' (ys++[v]) H3 else ∃m',m'<m/\W (i+1) m' ys H2):=by
  intro σ Q2 hσ hQ2 b0 hb0
  have g0:=Same.new hb0 (.tup (zs.map V.ref))
  refine zkU (fun j v=>∃t N,sn.parts[j]?=some t/\v=.int ((N:Nat):Int)/\TabOf os t N) (wG.of zf) (by rw[zts];exact ztL (zN (by omega))) ?_ (znQ (zfR d)) ?_
  ·intro i x H' hx g
   rw[ztu] at hx
   cases ho:zs[i]? with
   | none=>rw[ho] at hx;cases hx
   | some y =>
    rw[ho] at hx
    cases hx
    obtain⟨t,ht,it⟩:=K8 c2 ho
    have htm:=ztx ht
    have dp:=Sn.Sy sn t htm
    refine⟨_,rfl,.ref l,?_,y,l,t,os,rfl,it.mono (yN.of (g0.trans g)),(g0.trans g).seq hO,Sn.zb9 sn hin t htm,h8,by omega,fun N H3 g3 hN=>⟨⟨t,N,ht,rfl,hN⟩,g.trans g3⟩⟩
    show some (σ.getD 1 none)=_
    rw[hσ]
  ·intro ys H' pp hl hy g hpp
   exact hQ2 pp ys H' (g0.trans g) hpp (by rw[hl,zts];exact lz.symm) hy
 cases sn with
 | c0 y =>
  cases y with
  | false=>exact⟨_,rfl,rfl,_,rfl,z8 (fun _=>q 0 _ (Same.refl _) (ZC _)) (fun c=>absurd (decide_eq_true rfl) c)⟩
  | true =>
   refine⟨_,rfl,rfl,_,rfl,z8 (fun c=>absurd c (ne_str (show Str.ofString "yes" ≠ Str.ofString "no" by decide +kernel))) (fun _=>?_)⟩
   exact⟨_,rfl,rfl,_,rfl,z8 (fun _=>⟨_,rfl,os.length,rfl,h8,q _ _ (Same.refl _) (Ux _)⟩) (fun c=>absurd (decide_eq_true rfl) c)⟩
 | mk x =>
  refine⟨_,rfl,rfl,_,rfl,z8 (fun c=>absurd c (ne_str (show Str.ofString "mark" ≠ Str.ofString "no" by decide +kernel))) (fun _=>?_)⟩
  refine⟨_,rfl,rfl,_,rfl,z8 (fun c=>absurd c (ne_str (show Str.ofString "mark" ≠ Str.ofString "yes" by decide +kernel))) (fun _=>?_)⟩
  obtain⟨i1,i2,i3⟩:=XC (show x∈os from hin)
  have isp':H p=some (.tup [.str "mark", .str x]):=Jt
  exact⟨_,rfl,rfl,_,rfl,z8 (fun _=>⟨_,rfl,.inl ⟨rfl,_,hO⟩,_,rfl,p,_,1,_,rfl,rfl,wG.of isp',at1,l,_,.str x,_,rfl,rfl,hO,rfl,Ym _,i1,_,rfl,ix os x,os.length,rfl,i2,h8,fun R hR=>q R _ (Same.refl _) hR⟩) (fun c=>absurd (decide_eq_true rfl) c)⟩
 | nt s1 =>
  refine⟨_,rfl,rfl,_,rfl,z8 (fun c=>absurd c (ne_str (show Str.ofString "not" ≠ Str.ofString "no" by decide +kernel))) (fun _=>?_)⟩
  refine⟨_,rfl,rfl,_,rfl,z8 (fun c=>absurd c (ne_str (show Str.ofString "not" ≠ Str.ofString "yes" by decide +kernel))) (fun _=>?_)⟩
  refine⟨_,rfl,rfl,_,rfl,z8 (fun c=>absurd c (ne_str (show Str.ofString "not" ≠ Str.ofString "mark" by decide +kernel))) (fun _=>?_)⟩
  refine⟨_,rfl,p,_,_,_,_,rfl,c1,ZF (.nt s1),c3,fun b0 hb0=>?_⟩
  rw[c5]
  refine⟨b0,rfl,⟨_,wG.of zf⟩,comp rfl (fun b ys H0 g0 hb0' hyl hy=>?_) b0 hb0⟩
  have hb:=zf (H:=H0) (a:=b) (o:=.lst ys)
  have g:=g0.trans (Same.new hb0' (.lst ys))
  obtain⟨v,rfl⟩:=len1 hyl
  obtain⟨t,N,ht,rfl,hN⟩:=hy 0 v rfl
  cases ht
  refine⟨_,rfl,rfl,_,rfl,z8 (fun _=>⟨_,rfl,os.length,rfl,h8,_,rfl,b,_,0,_,rfl,rfl,zP.of hb,at0,_,N,rfl,rfl,q _ _ g (yI (Uy (Ux _) hN) fun z _=>?_)⟩) (fun c=>absurd (decide_eq_true rfl) c)⟩
  show(true != s1.val (xG os z))=!s1.val (xG os z)
  cases s1.val (xG os z)<;>rfl
 | b2 o s1 s2 =>
  have w1:w2 o≠Str.ofString "no" := zlQ o
  have w2':w2 o≠Str.ofString "yes" := zjf o
  have w3:w2 o≠Str.ofString "mark" := zgX o
  have w4:w2 o≠Str.ofString "not" := zjg o
  have w5:w2 o≠Str.ofString "some" := zgY o
  have w6:w2 o≠Str.ofString "each" := zgZ o
  refine⟨_,rfl,rfl,_,rfl,z8 (fun c=>absurd c (ne_str w1)) (fun _=>?_)⟩
  refine⟨_,rfl,rfl,_,rfl,z8 (fun c=>absurd c (ne_str w2')) (fun _=>?_)⟩
  refine⟨_,rfl,rfl,_,rfl,z8 (fun c=>absurd c (ne_str w3)) (fun _=>?_)⟩
  refine⟨_,rfl,p,_,_,_,_,rfl,c1,ZF (.b2 o s1 s2),c3,fun b0 hb0=>?_⟩
  rw[c5]
  refine⟨b0,rfl,⟨_,wG.of zf⟩,comp rfl (fun b ys H0 g0 hb0' hyl hy=>?_) b0 hb0⟩
  have hb:=zf (H:=H0) (a:=b) (o:=.lst ys)
  have g:=g0.trans (Same.new hb0' (.lst ys))
  obtain⟨v,u,rfl⟩:=len2 hyl
  obtain⟨t,N,ht,rfl,hN⟩:=hy 0 v rfl
  obtain⟨t',M,ht',rfl,hM⟩:=hy 1 u rfl
  cases ht
  cases ht'
  refine⟨_,rfl,rfl,_,rfl,z8 (fun c=>absurd c (ne_str w4)) (fun _=>?_)⟩
  refine⟨_,rfl,rfl,_,rfl,z8 (fun c=>absurd c (ne_str w5)) (fun _=>?_)⟩
  refine⟨_,rfl,rfl,_,rfl,z8 (fun c=>absurd c (ne_str w6)) (fun _=>?_)⟩
  exact⟨_,rfl,_,rfl,b,_,0,_,rfl,rfl,zP.of hb,at0,_,rfl,b,_,1,_,rfl,rfl,zP.of hb,at1,_,rfl,os.length,rfl,h8,o,N,M,os.length,_,_,rfl,hN,hM,fun R hR=>q R _ g hR⟩
 | q1 o x s1 =>
  obtain⟨hx,hs1⟩:=hin
  obtain⟨i1,i2,i3⟩:=XC hx
  cases o with
  | true =>
   refine⟨_,rfl,rfl,_,rfl,z8 (fun c=>absurd c (ne_str (show Str.ofString "some" ≠ Str.ofString "no" by decide +kernel))) (fun _=>?_)⟩
   refine⟨_,rfl,rfl,_,rfl,z8 (fun c=>absurd c (ne_str (show Str.ofString "some" ≠ Str.ofString "yes" by decide +kernel))) (fun _=>?_)⟩
   refine⟨_,rfl,rfl,_,rfl,z8 (fun c=>absurd c (ne_str (show Str.ofString "some" ≠ Str.ofString "mark" by decide +kernel))) (fun _=>?_)⟩
   refine⟨_,rfl,p,_,_,_,_,rfl,c1,ZF (.q1 true x s1),c3,fun b0 hb0=>?_⟩
   rw[c5]
   refine⟨b0,rfl,⟨_,wG.of zf⟩,comp rfl (fun b ys H0 g0 hb0' hyl hy=>?_) b0 hb0⟩
   have hb:=zf (H:=H0) (a:=b) (o:=.lst ys)
   have g:=g0.trans (Same.new hb0' (.lst ys))
   obtain⟨v,rfl⟩:=len1 hyl
   obtain⟨t,N,ht,rfl,hN⟩:=hy 0 v rfl
   cases ht
   have c1':=g _ _ c1
   refine⟨_,rfl,rfl,_,rfl,z8 (fun c=>absurd c (ne_str (show Str.ofString "some" ≠ Str.ofString "not" by decide +kernel))) (fun _=>?_)⟩
   refine⟨_,rfl,rfl,_,rfl,z8 (fun _=>?_) (fun c=>absurd (decide_eq_true rfl) c)⟩
   refine⟨_,rfl,b,_,0,_,rfl,rfl,zP.of hb,at0,_,rfl,b,_,0,_,rfl,rfl,zP.of hb,at0,_,rfl,.inl ⟨rfl,_,g.seq hO⟩,_,rfl,p,_,1,_,rfl,rfl,wG.of c1',at1,l,_,.str x,_,rfl,rfl,g.seq hO,rfl,Ym _,i1,_,rfl,N,ix os x,os.length,_,rfl,i2,h8,hN,fun R hR=>⟨N,R,rfl,rfl,q _ _ g (yI (SJ hN hR) fun z _=>?_)⟩⟩
   exact(zjd hs1 hx z).symm
  | false =>
   refine⟨_,rfl,rfl,_,rfl,z8 (fun c=>absurd c (ne_str (show Str.ofString "each" ≠ Str.ofString "no" by decide +kernel))) (fun _=>?_)⟩
   refine⟨_,rfl,rfl,_,rfl,z8 (fun c=>absurd c (ne_str (show Str.ofString "each" ≠ Str.ofString "yes" by decide +kernel))) (fun _=>?_)⟩
   refine⟨_,rfl,rfl,_,rfl,z8 (fun c=>absurd c (ne_str (show Str.ofString "each" ≠ Str.ofString "mark" by decide +kernel))) (fun _=>?_)⟩
   refine⟨_,rfl,p,_,_,_,_,rfl,c1,ZF (.q1 false x s1),c3,fun b0 hb0=>?_⟩
   rw[c5]
   refine⟨b0,rfl,⟨_,wG.of zf⟩,comp rfl (fun b ys H0 g0 hb0' hyl hy=>?_) b0 hb0⟩
   have hb:=zf (H:=H0) (a:=b) (o:=.lst ys)
   have g:=g0.trans (Same.new hb0' (.lst ys))
   obtain⟨v,rfl⟩:=len1 hyl
   obtain⟨t,N,ht,rfl,hN⟩:=hy 0 v rfl
   cases ht
   have c1':=g _ _ c1
   refine⟨_,rfl,rfl,_,rfl,z8 (fun c=>absurd c (ne_str (show Str.ofString "each" ≠ Str.ofString "not" by decide +kernel))) (fun _=>?_)⟩
   refine⟨_,rfl,rfl,_,rfl,z8 (fun c=>absurd c (ne_str (show Str.ofString "each" ≠ Str.ofString "some" by decide +kernel))) (fun _=>?_)⟩
   refine⟨_,rfl,rfl,_,rfl,z8 (fun _=>?_) (fun c=>absurd (decide_eq_true rfl) c)⟩
   refine⟨_,rfl,b,_,0,_,rfl,rfl,zP.of hb,at0,_,rfl,b,_,0,_,rfl,rfl,zP.of hb,at0,_,rfl,.inl ⟨rfl,_,g.seq hO⟩,_,rfl,p,_,1,_,rfl,rfl,wG.of c1',at1,l,_,.str x,_,rfl,rfl,g.seq hO,rfl,Ym _,i1,_,rfl,N,ix os x,os.length,_,rfl,i2,h8,hN,fun R hR=>⟨N,R,rfl,rfl,q _ _ g (yI (tY hN hR) fun z _=>?_)⟩⟩
   exact(zje hs1 hx z).symm
theorem Ju (T:Txt P w K mg a)(yC:zE P w K mg base zW k a.vK a.vL wK uL)(xR:zE P w K mg base zW k a.vB a.vC wu ux)
  (uU:zE P w K mg base zW k a.X4 a.X5 Yq XM)(uK:zE P w K mg base zW k a.Zk a.Zm uE Yn)
  (Ye:zE P w K mg base zW k a.uH a.uI vf zel):∀d:Nat,zE P w K mg base zW (k+d) a.WD a.WK Ys (UJ K d)
 | 0=>by
  refine⟨fun vs H Q E h=>?_,fun A outer s H args us vs Q E _ _ _ _ h=>?_⟩
  ·obtain⟨p,l,sn,os,rfl,_⟩:=h
   rfl
  ·obtain⟨p,l,sn,os,_,_,_,_,_,hd,_⟩:=h
   have:=Sn.Qc sn
   omega
 | d+1=>zbL T (yC.mono (zt3 _ _)) (xR.mono (zt3 _ _)) (uU.mono (zt3 _ _)) (uK.mono (zt3 _ _)) (Ye.mono (zt3 _ _)) (Ju T yC xR uU uK Ye d)
theorem zgr (T:Txt P w K mg a)(xR:zE P w K mg base zW k a.vB a.vC wu ux)(uU:zE P w K mg base zW k a.X4 a.X5 Yq XM):zE P w K mg base zW (k+1) a.Yu a.Yv Zu Wj:=by
 refine T.Yy.F.ok Nb (fun vs H Q E h=>?_) (fun cdv A outer s H vs Q E hr h=>?_)
 ·obtain⟨N,p,n,v,f,rfl,_⟩:=h
  rfl
 obtain⟨N,p,n,v,f,rfl,hp,hn,tb,q⟩:=h
 refine⟨_,(zj (zJ 4 Nb.nd (zL tZ (pv 0) (zp xR hr T.Xg (za (pv 1) (za (pv 3) zc)))))
   (zj (zJ 5 Nb.nd (NT (zO xu (pv 2) zx (zR _)) (pv 4) (zL Qe (pv 0) (pv 4))))
   (zm (zG (zL Vr (pv 5) (zp uU hr T.Uj (za (pv 5) (za (pv 1) (za (pv 3) zc))))))))),?_⟩
 refine⟨_,rfl,_,rfl,_,rfl,p,n,rfl,hp,hn,fun R tr=>?_⟩
 refine⟨N,R,rfl,rfl,?_⟩
 have o:=yU.tY tb tr
 refine⟨_,rfl,rfl,_,rfl,?_⟩
 cases v with
 | true =>
  refine z8 (fun _=>?_) (fun c=>absurd (decide_eq_true rfl) c)
  refine⟨_,rfl,?_⟩
  refine⟨_,rfl,_,rfl,_,rfl,_,rfl,N&&&R,p,n,_,rfl,hp,hn,o,fun R2 t2=>?_⟩
  refine⟨_,_,rfl,rfl,q _ (yI (yU.SJ o t2) fun b hb=>?_)⟩
  show((f b&&b.testBit p)||(f (zM b p (!b.testBit p))&&(zM b p (!b.testBit p)).testBit p))=f (zM b p true)
  rw[zQ,if_pos rfl]
  cases e:b.testBit p
  ·simp
  ·rw[<-e,yF.yD,e];simp
 | false =>
  refine z8 (fun c=>absurd (of_decide_eq_true c) (fun z=>by injection z with z;revert z;decide)) (fun _=>?_)
  have z:=yU.Uy tb o
  refine⟨_,rfl,_,rfl,N,N&&&R,rfl,rfl,?_⟩
  refine⟨_,rfl,_,rfl,_,rfl,_,rfl,N ^^^ (N&&&R),p,n,_,rfl,hp,hn,z,fun R2 t2=>?_⟩
  refine⟨_,_,rfl,rfl,q _ (yI (yU.SJ z t2) fun b hb=>?_)⟩
  show((f b != (f b&&b.testBit p))||(f (zM b p (!b.testBit p)) != (f (zM b p (!b.testBit p))&&(zM b p (!b.testBit p)).testBit p)))=f (zM b p false)
  rw[zQ,if_pos rfl]
  cases e:b.testBit p
  ·rw[<-e,yF.yD,e];simp
  ·simp
theorem zfg (T:Txt P w K mg a)(uU:zE P w K mg base zW k a.X4 a.X5 Yq XM):zE P w K mg base zW (k+1) a.Ni a.Nj U7 zdg:=by
 refine T.zbc.F.ok zeT (fun vs H Q E h=>?_) (fun cdv A outer s H vs Q E hr h=>?_)
 ·obtain⟨N,p,n,f,rfl,_⟩:=h
  rfl
 obtain⟨N,p,n,f,rfl,hp,hn,tb,q⟩:=h
 refine⟨_,(zm (zG (yV V0 (zp uU hr T.Uj (za (pv 0) (za (pv 1) (za (pv 2) zc)))) (pv 0) (zR _)))),?_⟩
 refine⟨_,rfl,_,rfl,_,rfl,N,p,n,f,rfl,hp,hn,tb,fun R tr=>?_⟩
 refine⟨_,rfl,rfl,?_⟩
 refine q _ (fun e=>?_) (fun e=>?_)
 ·have e1:R=N:=by
   have z:V.int (R:Nat)=V.int (N:Nat):=of_decide_eq_true (by simpa using e)
   injection z with z
   omega
  subst e1
  refine yF.Free.zk0 fun b hb=>?_
  rw[<-yF.ZM tr hb,yF.ZM tb hb]
 ·refine Classical.byContradiction fun no=>?_
  have e1:R=N:=yF.Vc tr tb fun b hb=>by
   refine Classical.byContradiction fun ne=>no ⟨b,hb,fun z=>ne ?_⟩
   show f (zM b p (!b.testBit p))=f b
   cases e:b.testBit p
   ·rw[Bool.not_false,<-z,<-e,yF.yD]
   ·rw[Bool.not_true,z,<-e,yF.yD]
  subst e1
  rw[decide_eq_true rfl] at e
  cases e
theorem zbg (T:Txt P w K mg a)(zgs:zE P w K mg base zW k a.Ni a.Nj U7 zdg):zE P w K mg base zW (k+1) a.YQ a.YS tE J9:=by
 refine T.Q8.F.ok Wq (fun vs H Q E h=>?_) (fun cdv A outer s H vs Q E hr h=>?_)
 ·obtain⟨N,n,f,rfl,_⟩:=h
  rfl
 obtain⟨N,n,f,rfl,hn,tb,q⟩:=h
 refine⟨_,(zj (zJ 2 Wq.nd zx)
   (zj (zaj PassesOwn.never (PW.pt (ziA (zO zgK (pv 2) (pv 1) (zR _)) (zgF (vD (yE (zp zgs hr T.zbc (za (pv 0) (za (pv 2) (za (pv 1) zc)))) (fun _=>rfl)))))) (zm (zfu (i:=2) Wq.nd rfl (Or.inl rfl) zx zcO)))
   (zm (zG (pv 2))))),?_⟩
 refine⟨fun m σ H'=>∃p:Nat,m=n-p/\H'=H/\p<=n/\(∀i,i<p->yF.Free n f i)/\σ=[some (.int N),some (.int n),some (.int p)],⟨_,0,rfl,rfl,ztP _,fun i hi=>absurd hi (Nat.not_lt_zero _),rfl⟩,?_⟩
 rintro m σ H' ⟨p,rfl,rfl,hp,fr,rfl⟩
 refine⟨_,rfl,_,rfl,_,_,rfl,rfl,_,rfl,z8 (fun c=>?_) (fun c=>?_)⟩
 ·have hpn:p<n:=by have:=of_decide_eq_true c;omega
  refine⟨_,rfl,_,rfl,_,rfl,N,p,n,f,rfl,hpn,hn,tb,fun b hf ht=>?_⟩
  cases b with
  | false =>
   refine⟨_,rfl,z8 (fun c2=>?_) (fun c2=>absurd rfl c2)⟩
   refine⟨_,fun σ' H2 h=>h,?_⟩
   refine⟨_,rfl,_,_,rfl,rfl,n-(p+1),by omega,p+1,rfl,rfl,hpn,fun i hi=>?_,rfl⟩
   by_cases e:i=p
   ·subst e
    exact hf rfl
   ·exact fr i (by omega)
  | true =>
   refine⟨_,rfl,z8 (fun c2=>absurd c2 ztw) (fun c2=>?_)⟩
   exact⟨_,rfl,q p hp fr fun _=>ht rfl⟩
 ·refine⟨_,rfl,q p hp fr fun h=>absurd (decide_eq_true (by omega)) c⟩
theorem Nx {d:Nat}(T:Txt P w K mg a)(Y5:zE P w K mg base zW k a.YQ a.YS tE J9)(yX:zE P w K mg base zW k a.Yu a.Yv Zu Wj)
  (uV:zE P w K mg base zW k a.vo a.vp xU (Xa a.zA d)):zE P w K mg base zW (k+1) a.vo a.vp xU (Xa a.zA (d+1)):=by
 refine T.uT.F.ok wA (fun vs H Q E h=>?_) (fun cdv A outer s H vs Q E hr h=>?_)
 ·obtain⟨b,os,rs,F,t,u,f,rfl,_⟩:=h
  rfl
 obtain⟨b,os,rs,F,t,u,f,rfl,hB,hlen,hu,hd,tb,fr,q⟩:=h
 refine⟨_,(zj (yr (zml (zhU (zb7 hr) (pv 1) (Xh (pv 0) rfl))) (zj (zJ 2 wA.nd (zF zH rfl T.yJ yc (za (Xh (pv 0) rfl) zc)))
   (zj (zJ 3 wA.nd (zp Y5 hr T.Q8 (za (pv 1) (za (pv 2) zc))))
   (zj (zJ 4 wA.nd (u9 (pv 0) T.yH T.uT uV hr (za (zp yX hr T.Yy (za (pv 1) (za (pv 3) (za zx (za (pv 2) zc))))) zc)))
   (zj (zJ 5 wA.nd (u9 (pv 0) T.yH T.uT uV hr (za (zp yX hr T.Yy (za (pv 1) (za (pv 3) (za zx (za (pv 2) zc))))) zc)))
   (zj (zg6 (zb7 hr) (Xh (pv 0) rfl) (pv 1) (zF zH rfl T.yJ yc (za (Xh (pv 0) rfl) zc)) rfl)
   (zj (yu (uw PySem.F.plainAttrs_list PySem.F.slot_list_append PySem.F.type_list_append wU (Xh (pv 0) rfl) (za (uY (za (pv 3) (za (pv 4) (za (pv 5) zc)))) zc)))
   (zm (yu (uw PySem.F.plainAttrs_list PySem.F.slot_list_append PySem.F.type_list_append wU (Xh (pv 0) rfl) (za (pv 1) zc)))))))))) zU)
   (zm (zG (zde (zb7 hr) (Xh (pv 0) rfl) (pv 1) (fun _ _=>rfl))))),?_⟩
 have hB0:=hB
 obtain⟨dx,ml,rl,tl,nd,rv,ts,kvs,h⟩:=hB
 have n8:os.length<=8:=h.ord.le
 have hml:(os.map V.str).length=os.length:=zts _
 have pw:2^(d+1)=2^d+2^d:=by rw[Nat.pow_succ];omega
 have pd:1<=2^d:=Nat.one_le_two_pow
 have pn:2^os.length<=256:=yU.zhQ n8
 refine⟨_,rfl,_,rfl,b,a.zA,dx,_,_,rfl,h.hb,T.yH,T.vR,rfl,nd,_,rfl,Jx.k (k:=.inl (t:Int)) h.hd,?_⟩
 by_cases hm:t∈ts
 ·obtain⟨j,hj,ej⟩:=zua hm
  have ej':ts[j]?=some t:=by rw[ztt hj,ej]
  have ev:=h.nums.get j t ej'
  have z:=Jx.k (k:=.inl (t:Int)) h.hd
  rw[ev] at z
  rw[ev]
  refine⟨_,rfl,Zi ?_⟩
  refine⟨_,rfl,b,a.zA,dx,_,_,rfl,h.hb,T.yH,T.vR,rfl,_,rfl,nd,_,rfl,z,?_⟩
  refine q j rs H (fun x o e _=>e) (fun _ _ e=>e) hB0 (.refl _) (by rw[<-h.tabs.len];exact hj) (h.tabs.find h.bk ej' tb) (by omega) (fun j h1 h2=>by omega) (zt3 _ _)
 ·have ev:=h.nums.non t hm
  rw[ev]
  refine⟨_,rfl,Xi ?_⟩
  refine⟨_,rfl,b,a.zA,dx,_,_,rfl,h.hb,T.yH,T.tV,rfl,ml,_,rfl,.inl (zP.of h.hm),?_⟩
  rw[hml]
  refine⟨_,rfl,_,rfl,t,os.length,f,rfl,n8,tb,fun p hp0 frp dep=>?_⟩
  have hp:p<os.length:=by
   refine Nat.lt_of_le_of_ne hp0 fun e=>hm ?_
   subst e
   have cs:=yF.YD frp
   have two:=yF.len2 h.bk
   cases hf:f 0 with
   | false=>exact ztx (h.tabs.same (j:=0) (by omega) tb fun r=>by rw[cs _ (yF.Za _ _),hf];rfl)
   | true=>exact ztx (h.tabs.same (j:=1) (by omega) tb fun r=>by rw[cs _ (yF.Za _ _),hf];exact yF.Qm h.bk r)
  have hup:u<=p:=by
   refine Nat.le_of_not_lt fun hlt=>?_
   obtain⟨c,hc,hne⟩:=dep hp
   exact hne (by rw[fr p hlt c hc,fr p hlt c hc])
  have fre:∀(v:Bool) i,i<p+1->yF.Free os.length (fun c=>f (zM c p v)) i:=fun v i hi c hc v'=>by
   show f (zM (zM c i v') p v)=f (zM c p v)
   by_cases e:i=p
   ·subst e
    congr 1
    refine yF.ZL (zT (zT hc hp) hp) (zT hc hp) fun j _=>?_
    rw[zQ,zQ,zQ]
    by_cases e:j=i
    ·rw[if_pos e,if_pos e]
    ·rw[if_neg e,if_neg e,if_neg e]
   ·rw[<-frp i (by omega) _ (zT (v:=v) hc hp) v']
    congr 1
    refine yF.ZL (zT (zT hc (by omega)) hp) (zT (zT hc hp) (by omega)) fun j _=>?_
    rw[zQ,zQ,zQ,zQ]
    by_cases e1:j=p
    ·rw[if_pos e1,if_pos e1,if_neg (by omega)]
    ·rw[if_neg e1,if_neg e1]
  refine⟨_,rfl,b,dx,_,rfl,h.hb,rfl,_,rfl,_,rfl,_,rfl,t,p,os.length,false,f,rfl,hp,n8,tb,fun R0 tr0=>?_⟩
  refine⟨b,os,rs,F,R0,p+1,_,rfl,hB0,by omega,hp,by omega,tr0,fre false,fun k0 rs1 H1 aw1 tu1 hB1 gr1 lt1 y1 ln1 lv1 hh1=>?_⟩
  have hB1':=hB1
  obtain⟨dx1,ml1,rl1,tl1,nd1,rv1,ts1,zr5,h1⟩:=hB1
  refine⟨_,rfl,b,dx1,_,rfl,h1.hb,rfl,_,rfl,_,rfl,_,rfl,t,p,os.length,true,f,rfl,hp,n8,tb,fun R1 tr1=>?_⟩
  refine⟨b,os,rs1,F,R1,p+1,_,rfl,hB1',by omega,hp,by omega,tr1,fre true,fun k1 rs2 H2 aw2 tu2 hB2 gr2 lt2 y2 ln2 lv2 hh2=>?_⟩
  obtain⟨dx2,ml2,rl2,tl2,NQ,rv2,ts2,zm2,h2⟩:=hB2
  have lt1':k0<rs2.length:=ztB lt1 gr2.len
  have y1':∀r,yF.yes rs2 k0 r=f (zM (yF.bits r os.length) p false):=fun r=>by rw[gr2.yes h1.bk lt1];exact y1 r
  have g02:=gr1.trans gr2
  have lrs:=g02.len
  have lvs:∀j,rs.length<=j->j<rs2.length->p<yF.Ke os.length rs2 j:=fun j a1 a2=>by
   by_cases hj:j<rs1.length
   ·rw[gr2.Ke hj];exact lv1 j a1 hj
   ·exact lv2 j (by omega) a2
  have old:∀j,j<rs.length->¬∀r,yF.yes rs2 j r=f (yF.bits r os.length):=fun j hj hy=>hm (ztx (h.tabs.same hj tb fun r=>by rw[<-g02.yes h.bk hj];exact hy r))
  obtain⟨B',yn⟩:=yF.zjp h2.bk hp lt1' lt2 y1' y2 frp (dep hp) old lvs
  have hn2:t∉ts2:=fun hm2=>by
   obtain⟨j,hj,ej⟩:=zua hm2
   have ej':ts2[j]?=some t:=by rw[ztt hj,ej]
   have hjr:j<rs2.length:=by rw[<-h2.tabs.len];exact hj
   have hy:=h2.tabs.find h2.bk ej' tb
   by_cases hjo:j<rs.length
   ·exact old j hjo hy
   ·obtain⟨c,hc,hne⟩:=dep hp
    have lv:=lvs j (by omega) hjr
    refine hne ?_
    have a1:=hy (yF.put (yF.Jy c) p false)
    have a2:=hy (yF.put (yF.Jy c) p true)
    rw[yF.ZG h2.bk hjr lv,yF.zes hp,yF.Qo hc] at a1 a2
    exact a1.symm.trans a2
  have l2:=h2.len
  have s2:rs2.length<sizeLine:=ztB (show rs2.length<9000001 by omega) (by decide)
  refine⟨_,rfl,b,a.zA,dx2,_,_,rfl,h2.hb,T.yH,T.Y4,rfl,rl2,_,rfl,.inl (zP.of h2.hr),?_⟩
  rw[l2]
  refine⟨_,rfl,b,a.zA,dx2,_,_,rfl,h2.hb,T.yH,T.vR,rfl,_,rfl,NQ,_,rfl,zhR.k (k:=.inl (t:Int)) h2.hd (by have:=h2.nums.len;have:=h2.tabs.len;omega),?_⟩
  have nb:NQ≠b:=Sd h2.hd h2.hb (by intro z;cases z)
  have nm:NQ≠ml2:=Sd h2.hd h2.hm (by intro z;cases z)
  have nr:NQ≠rl2:=Sd h2.hd h2.hr (by intro z;cases z)
  have nt:NQ≠tl2:=Sd h2.hd h2.ht (by intro z;cases z)
  have br:b≠rl2:=Sd h2.hb h2.hr (by intro z;cases z)
  have bt:b≠tl2:=Sd h2.hb h2.ht (by intro z;cases z)
  generalize hO3:HO.dK (putK zm2 (Sum.inl (t:Int)) (V.int (rs2.length:Nat)))=o3
  have b3:upd H2 NQ o3 b=some (.ins a.zA dx2 (Kf ml2 rl2 tl2 NQ)):=by rw[zB (Ne.symm nb)];exact h2.hb
  have r3:upd H2 NQ o3 rl2=some (.lst rv2):=by rw[zB (Ne.symm nr)];exact h2.hr
  refine⟨_,rfl,b,a.zA,dx2,_,_,rfl,b3,T.yH,T.Y4,rfl,.inl ⟨rfl,_,zP.of r3⟩,?_⟩
  refine⟨_,rfl,_,rfl,_,rfl,by show 3<=sizeLine;decide,fun q4 hq4=>?_⟩
  generalize hO4:HO.tup [V.int (p:Nat),V.int (k0:Nat),V.int (k1:Nat)]=o4
  have r4:upd (upd H2 NQ o3) q4 o4 rl2=some (.lst rv2):=by rw[zB (zy r3 hq4)];exact r3
  refine⟨rl2,_,_,rfl,rfl,r4,by rw[l2];exact s2,?_⟩
  have b4:upd (upd H2 NQ o3) q4 o4 b=some (.ins a.zA dx2 (Kf ml2 rl2 tl2 NQ)):=by rw[zB (zy b3 hq4)];exact b3
  have t3:upd H2 NQ o3 tl2=some (.lst (ts2.map fun t=>V.int (t:Nat))):=by rw[zB (Ne.symm nt)];exact h2.ht
  have t4:upd (upd H2 NQ o3) q4 o4 tl2=some (.lst (ts2.map fun t=>V.int (t:Nat))):=by rw[zB (zy t3 hq4)];exact t3
  have m3:upd H2 NQ o3 ml2=some (.lst (os.map V.str)):=by rw[zB (Ne.symm nm)];exact h2.hm
  have m4:upd (upd H2 NQ o3) q4 o4 ml2=some (.lst (os.map V.str)):=by rw[zB (zy m3 hq4)];exact m3
  have n3:upd H2 NQ o3 NQ=some o3:=zf
  have n4:upd (upd H2 NQ o3) q4 o4 NQ=some o3:=by rw[zB (zy n3 hq4)];exact n3
  have qr:q4≠rl2:=Ne.symm (zy r3 hq4)
  have qt:q4≠tl2:=Ne.symm (zy t3 hq4)
  have q4':upd (upd H2 NQ o3) q4 o4 q4=some o4:=zf
  have tu4:yN H2 (upd (upd H2 NQ o3) q4 o4):=fun x xs e=>by
   have e3:upd H2 NQ o3 x=some (.tup xs):=by rw[zB (Sd e h2.hd (by intro z;cases z))];exact e
   rw[zB (zy e3 hq4)];exact e3
  have aw4:∀x o,H2 x=some o->¬F x->upd (upd H2 NQ o3) q4 o4 x=some o:=fun x o e nf=>by
   have e3:upd H2 NQ o3 x=some o:=by rw[zB (fun z=>nf ((h2.ft x).mpr (.inr (.inr (.inr (.inr z))))))];exact e
   rw[zB (zy e3 hq4)];exact e3
  generalize upd (upd H2 NQ o3) q4 o4=H4 at b4 t4 m4 n4 r4 q4' tu4 aw4
  generalize hO5:HO.lst (rv2++[V.ref q4])=o5
  have b5:upd H4 rl2 o5 b=some (.ins a.zA dx2 (Kf ml2 rl2 tl2 NQ)):=by rw[zB br];exact b4
  have t5:upd H4 rl2 o5 tl2=some (.lst (ts2.map fun t=>V.int (t:Nat))):=by rw[zB (Ne.symm h2.rt)];exact t4
  refine⟨_,rfl,b,a.zA,dx2,_,_,rfl,b5,T.yH,T.W0,rfl,.inl ⟨rfl,_,zP.of t5⟩,_,rfl,tl2,_,_,rfl,rfl,t5,by rw[zts,h2.tabs.len];exact s2,?_⟩
  generalize hO6:HO.lst (ts2.map (fun t=>V.int (t:Nat))++[V.int (t:Nat)])=o6
  have b6:upd (upd H4 rl2 o5) tl2 o6 b=some (.ins a.zA dx2 (Kf ml2 rl2 tl2 NQ)):=by rw[zB bt];exact b5
  have n6:upd (upd H4 rl2 o5) tl2 o6 NQ=some (.dK (putK zm2 (Sum.inl (t:Int)) (V.int (rs2.length:Nat)))):=by rw[zB nt,zB nr,n4,hO3]
  have z:=Jx.k (k:=.inl (t:Int)) n6
  rw[wX,if_pos rfl] at z
  refine⟨_,rfl,b,a.zA,dx2,_,_,rfl,b6,T.yH,T.vR,rfl,_,rfl,NQ,_,rfl,z,?_⟩
  have tu6:yN H4 (upd (upd H4 rl2 o5) tl2 o6):=fun x xs e=>by
   rw[zB (Sd e t4 (by intro z;cases z)),zB (Sd e r4 (by intro z;cases z))];exact e
  have parts:=h2.more (H':=upd (upd H4 rl2 o5) tl2 o6) (i:=p) (lo:=k0) (hi:=k1) (t:=t) (q:=q4) (fun x xs e=>tu6 _ _ (tu4 _ _ e)) (b6.trans h2.hb.symm)
   (by rw[zB h2.mt,zB h2.mr,m4,h2.hm]) (by rw[zB h2.rt,zf,hO5]) (by rw[zf,hO6]) n6
   (by rw[zB qt,zB qr,q4',hO4]) B' hn2 (yI tb fun c hc=>by rw[yn,yF.Qo hc])
  refine q rs2.length _ _ (fun x o e nf=>?_) (fun x xs e=>tu6 _ _ (tu4 _ _ (tu2 _ _ (tu1 _ _ e)))) ⟨_,_,_,_,_,_,_,_,parts⟩ (g02.trans (yF.uy.snoc _ _)) (by simp) yn (by rw[ztA,zt0];omega) (fun j a1 a2=>?_) ?_
  ·have e2:=aw2 x o (aw1 x o e nf) nf
   rw[zB (fun z=>nf ((h2.ft x).mpr (.inr (.inr (.inr (.inl z)))))),zB (fun z=>nf ((h2.ft x).mpr (.inr (.inr (.inl z)))))]
   exact aw4 x o e2 nf
  ·rw[ztA,zt0] at a2
   by_cases hj:j<rs2.length
   ·rw[yF.Rb hj]
    have:=lvs j a1 hj
    omega
   ·have:j=rs2.length:=by omega
    subst this
    rw[yF.Ra B' (i:=p) (lo:=k0) (hi:=k1) (by simp)]
    exact hup
  ·rw[yF.zk3]
   have:=yF.zk4 (n:=os.length) hup
   omega
theorem W5 (T:Txt P w K mg a)(Y5:zE P w K mg base zW k a.YQ a.YS tE J9)(yX:zE P w K mg base zW k a.Yu a.Yv Zu Wj) :
  ∀d:Nat,zE P w K mg base zW (k+d) a.vo a.vp xU (Xa a.zA d)
 | 0=>by
  refine⟨fun vs H Q E h=>?_,fun A outer s H args us vs Q E _ _ _ _ h=>?_⟩
  ·obtain⟨b,os,rs,F,t,u,f,rfl,_⟩:=h
   rfl
  ·obtain⟨b,os,rs,F,t,u,f,_,_,_,hu,hd,_⟩:=h
   omega
 | d+1=>Nx T (Y5.mono (zt3 _ _)) (yX.mono (zt3 _ _)) (W5 T Y5 yX d)
theorem zbh (T:Txt P w K mg a)(Nz:zE P w K mg base zW k a.Zn a.Zo vJ Kc)(Lg:zE P w K mg base zW k a.Z2 a.Z4 uh (SX K))
  (Nv:zE P w K mg base zW k a.WD a.WK Ys (UJ K 24))(uV:zE P w K mg base zW k a.vo a.vp xU (Xa a.zA 9)) :
  zE P w K mg base zW (k+1) a.Ti a.Tj XJ (zaI a.zA):=by
 refine T.Ld.F.ok zbF (fun vs H Q E h=>?_) (fun cdv A outer s H vs Q E hr h=>?_)
 ·obtain⟨b,p,os,rs,F,sn,rfl,_⟩:=h
  rfl
 obtain⟨b,p,os,rs,F,sn,rfl,hB,hlen,Jt,hin,hc,hd,q⟩:=h
 refine⟨_,(zj (yu (zp Nz hr T.WW (za (pv 1) zc)))
   (zj (yu (zp Lg hr T.Vp (za (Xh (pv 0) rfl) (za (pv 1) zc))))
   (zm (zG (u9 (pv 0) T.yH T.uT uV hr (za (zp Nv hr T.Nr (za (pv 1) (za (Xh (pv 0) rfl) zc))) zc)))))),?_⟩
 have L:=uD a.zA
 have ho:=L.ord hB
 have hlt:sn.QF ud:=(Sn.Uz sn).mpr fun x hx=>ho.mem x ((Sn.Uz sn).mp hin x hx)
 refine⟨_,rfl,p,sn,rfl,Jt,hlt,hc,hd,fun H1 g1=>?_⟩
 have hB1:=L.same hB g1
 obtain⟨dx,ml,rl,tl,nd,rv,ts,kvs,h1⟩:=hB1
 refine⟨_,rfl,b,a.zA,dx,_,_,rfl,h1.hb,T.yH,T.tV,rfl,_,rfl,ml,p,os,sn,rfl,zP.of h1.hm,Jt.mono (yN.of g1),by omega,hin,fun H2 g2=>?_⟩
 have g12:=g1.trans g2
 have h2:=h1.frame (fun x o e _=>g2 x o e) (yN.of g2)
 refine⟨_,rfl,b,dx,_,rfl,h2.hb,rfl,_,rfl,_,rfl,b,a.zA,dx,_,_,rfl,h2.hb,T.yH,T.tV,rfl,p,ml,sn,os,rfl,Jt.mono (yN.of g12),zP.of h2.hm,hin,ho.le,hd,fun N H3 g3 hN=>?_⟩
 have g13:=g12.trans g3
 have hB3:=L.same hB g13
 refine⟨b,os,rs,F,N,0,_,rfl,hB3,by show rs.length+512<=9000000;omega,ztP _,by have:=ho.le;omega,hN,fun i hi=>absurd hi (Nat.not_lt_zero _),fun j rs' H' aw tu hB' gr lt y ln _ hh=>?_⟩
 refine q j rs' H' (fun x o e nf=>aw x o (g13 _ _ e) nf) (fun x xs e=>tu _ _ (g13 _ _ e)) hB' gr ⟨lt,fun r=>?_⟩ (ztO hh (Nat.add_le_add_left (yF.zpO ho.le) _))
 rw[y]
 refine Sn.val_congr sn hin fun x hx=>?_
 show(yF.bits r os.length).testBit (ix os x)=r (ix os x)
 exact yF.Y9 r (XC hx).2.1
theorem zdQ (T:Txt P w K mg a)(JQ:zE P w K mg base zW k a.Xl a.Xm Zc (SN K))(yC:zE P w K mg base zW k a.vK a.vL wK uL) :
  zE P w K mg base zW (k+1) a.Vo a.RK Vk (Py (yP a.zA) K a.zA):=by
 refine T.Js.F.ok MP (fun vs H Q E h=>?_) (fun cdv A outer s H vs Q E hr h=>?_)
 ·obtain⟨b,dx,l,os,rfl,_⟩:=h
  rfl
 obtain⟨b,dx,l,os,rfl,hb,bd,hl,ho,q⟩:=h
 refine⟨_,(zj (yu (zp JQ hr T.TY (za (pv 1) zc)))
   (zj (zJ 2 MP.nd (zF zH rfl T.yJ yc (za (pv 1) zc)))
   (zj (zcP (pv 0) (xT Uu rfl T.W3 YC (za (pv 1) zc)) rfl)
   (zj (zcP (pv 0) (yK (za (uY (za (pv 2) (za zx (za zx zc)))) (za (uY (za (pv 2) (za zx (za zx zc)))) zc))) rfl)
   (zj (zcP (pv 0) (yK (za zx (za (zp yC hr T.uJ (za (pv 2) zc)) zc))) rfl)
   (zm (zcP (pv 0) (zg8 (V5 zx zx (V5 (zp yC hr T.uJ (za (pv 2) zc)) zx zg7)) rfl rfl (List.cons_ne_nil _ _) (Nat.le_of_ble_eq_true rfl)) rfl))))))),?_⟩
 have n8:=ho.le
 have hml:(os.map V.str).length=os.length:=zts _
 refine⟨_,rfl,l,os,rfl,hl,ho,fun H1 g1=>?_⟩
 have hl1:=g1.seq hl
 refine⟨_,rfl,l,_,rfl,.inl hl1,?_⟩
 rw[hml]
 have b1:=g1 _ _ hb
 refine⟨_,rfl,l,_,rfl,.inl hl1,fun ml hm1=>?_⟩
 have bm:b≠ml:=zy b1 hm1
 have b2:upd H1 ml (.lst (os.map V.str)) b=some (.ins a.zA dx []):=by rw[zB bm];exact b1
 refine⟨_,rfl,b,a.zA,dx,_,rfl,b2,T.yH,T.tV,by decide,?_⟩
 have s2:∀x o,H x=some o->x≠b->upd (upd H1 ml (.lst (os.map V.str))) b (.ins a.zA dx (Yi "marks" (.ref ml) [])) x=some o:=fun x o e nb=>by
  rw[zB nb,zB (zy (g1 _ _ e) hm1)];exact g1 _ _ e
 have hm2:upd (upd H1 ml (.lst (os.map V.str))) b (.ins a.zA dx (Yi "marks" (.ref ml) [])) ml=some (.lst (os.map V.str)):=by rw[zB (Ne.symm bm)];exact zf
 have f2:∀x,upd (upd H1 ml (.lst (os.map V.str))) b (.ins a.zA dx (Yi "marks" (.ref ml) [])) x=none->H x=none:=fun x e=>by
  have nb:x≠b:=fun z=>by rw[z,zf] at e;cases e
  cases hx:H x with
  | none=>rfl
  | some o=>rw[s2 x o hx nb] at e;cases e
 have fm:H ml=none:=g1.free hm1
 have b2':upd (upd H1 ml (.lst (os.map V.str))) b (.ins a.zA dx (Yi "marks" (.ref ml) [])) b=some (.ins a.zA dx (Yi "marks" (.ref ml) [])):=zf
 generalize upd (upd H1 ml (.lst (os.map V.str))) b (.ins a.zA dx (Yi "marks" (.ref ml) []))=H2 at s2 hm2 f2 b2'
 refine⟨_,rfl,by show 3<=sizeLine;decide,fun p0 hp0=>?_⟩
 refine⟨_,rfl,by show 3<=sizeLine;decide,fun p1 hp1=>?_⟩
 refine⟨by show 2<=sizeLine;decide,fun rl hrl=>?_⟩
 have g2:=((Same.new hp0 (.tup [.int (os.length:Nat),.int 0,.int 0])).trans (Same.new hp1 (.tup [.int (os.length:Nat),.int 1,.int 1]))).trans (Same.new hrl (.lst [.ref p0,.ref p1]))
 have hp0':=((Same.new hp1 (.tup [.int (os.length:Nat),.int 1,.int 1])).trans (Same.new hrl (.lst [.ref p0,.ref p1]))) p0 (.tup [.int (os.length:Nat),.int 0,.int 0]) zf
 have hp1':=(Same.new hrl (.lst [.ref p0,.ref p1])) p1 (.tup [.int (os.length:Nat),.int 1,.int 1]) zf
 have hr3:upd (upd (upd H2 p0 (.tup [.int (os.length:Nat),.int 0,.int 0])) p1 (.tup [.int (os.length:Nat),.int 1,.int 1])) rl (.lst [.ref p0,.ref p1]) rl=some (.lst [.ref p0,.ref p1]):=zf
 have frl:H2 rl=none:=((Same.new hp0 _).trans (Same.new hp1 _)).free hrl
 have brl:b≠rl:=zy b2' frl
 have mr:ml≠rl:=zy hm2 frl
 have b0:b≠p0:=zy b2' hp0
 have b1':b≠p1:=zy b2' ((Same.new hp0 _).free hp1)
 generalize upd (upd (upd H2 p0 (.tup [.int (os.length:Nat),.int 0,.int 0])) p1 (.tup [.int (os.length:Nat),.int 1,.int 1])) rl (.lst [.ref p0,.ref p1])=H3 at g2 hp0' hp1' hr3
 refine⟨_,rfl,b,a.zA,dx,_,rfl,g2 _ _ b2',T.yH,T.Y4,by show 1<1000;decide,?_⟩
 generalize hfs:Yi "rooms" (V.ref rl) (Yi "marks" (V.ref ml) [])=fs3
 have u3:∀x,x≠b->upd H3 b (.ins a.zA dx fs3) x=H3 x:=fun x nb=>zB nb
 have b3:upd H3 b (.ins a.zA dx fs3) b=some (.ins a.zA dx fs3):=zf
 generalize upd H3 b (.ins a.zA dx fs3)=H4 at u3 b3
 refine⟨_,rfl,os.length,rfl,n8,by show 2<=sizeLine;decide,fun tl htl=>?_⟩
 have btl:b≠tl:=zy b3 htl
 have g4:=Same.new htl (.lst [.int 0,.int ((2^2^os.length-1:Nat):Int)])
 have ht5:upd H4 tl (.lst [.int 0,.int ((2^2^os.length-1:Nat):Int)]) tl=some (.lst [.int 0,.int ((2^2^os.length-1:Nat):Int)]):=zf
 generalize upd H4 tl (.lst [.int 0,.int ((2^2^os.length-1:Nat):Int)])=H5 at g4 ht5
 refine⟨_,rfl,b,a.zA,dx,_,rfl,g4 _ _ b3,T.yH,T.W0,by rw[<-hfs];show 2<1000;decide,?_⟩
 generalize zol:Yi "tables" (V.ref tl) fs3=fs4
 have u5:∀x,x≠b->upd H5 b (.ins a.zA dx fs4) x=H5 x:=fun x nb=>zB nb
 have b5:upd H5 b (.ins a.zA dx fs4) b=some (.ins a.zA dx fs4):=zf
 generalize upd H5 b (.ins a.zA dx fs4)=H6 at u5 b5
 refine fun nd hnd=>?_
 have bnd:b≠nd:=zy b5 hnd
 have g6:=Same.new hnd (.dK [])
 refine⟨_,rfl,os.length,rfl,n8,zf,[(Sum.inl 0,.int 0),(Sum.inl ((2^2^os.length-1:Nat):Int),.int 1)],rfl,(by show 2<=15;decide),?_⟩
 rw[zgD]
 have g7:=Same.new hnd (.dK (Yo [] [(Sum.inl 0,.int 0),(Sum.inl ((2^2^os.length-1:Nat):Int),.int 1)]))
 have hn7:upd H6 nd (.dK (Yo [] [(Sum.inl 0,.int 0),(Sum.inl ((2^2^os.length-1:Nat):Int),.int 1)])) nd=some (.dK (Yo [] [(Sum.inl 0,.int 0),(Sum.inl ((2^2^os.length-1:Nat):Int),.int 1)])):=zf
 generalize upd H6 nd (.dK (Yo [] [(Sum.inl 0,.int 0),(Sum.inl ((2^2^os.length-1:Nat):Int),.int 1)]))=H7 at g7 hn7
 refine⟨_,rfl,b,a.zA,dx,_,rfl,g7 _ _ b5,T.yH,T.vR,by rw[<-zol,<-hfs];show 3<1000;decide,?_⟩
 have big:2^2^os.length-1≠0:=by
  have:2^1<=2^2^os.length:=ztY (by decide) Nat.one_le_two_pow
  omega
 have to7:∀x o,H3 x=some o->x≠b->upd H7 b (.ins a.zA dx (Yi "numbers" (.ref nd) fs4)) x=some o:=fun x o e nb=>by
  rw[zB nb]
  refine g7 _ _ ?_
  rw[u5 x nb]
  refine g4 _ _ ?_
  rw[u3 x nb]
  exact e
 have tl6:H6 tl=some (.lst [.int 0,.int ((2^2^os.length-1:Nat):Int)]):=by rw[u5 tl (Ne.symm btl)];exact ht5
 have efs:Yi "numbers" (.ref nd) fs4=Kf ml rl tl nd:=by rw[<-zol,<-hfs];rfl
 have up:∀x o,H3 x=some o->x≠b->H4 x=some o:=fun x o e nb=>by rw[u3 x nb];exact e
 have mt:ml≠tl:=zy (up _ _ (g2 _ _ hm2) (Ne.symm bm)) htl
 have rt:rl≠tl:=zy (up _ _ hr3 (Ne.symm brl)) htl
 have fr4:∀x,H4 x=none->H x=none:=fun x e=>f2 x (by
  cases hx:H2 x with
  | none=>rfl
  | some o =>
   by_cases nb:x=b
   ·rw[nb,b3] at e;cases e
   ·rw[up x o (g2 _ _ hx) nb] at e;cases e)
 have fr6:∀x,H6 x=none->H x=none:=fun x e=>by
  have nb:x≠b:=fun z=>by rw[z,b5] at e;cases e
  rw[u5 x nb] at e
  exact fr4 x (g4.free e)
 have two:∀{j:Nat},j<2->j=0\/j=1:=fun h=>by omega
 have bk0:yF.Bk os.length [none,none]:=⟨rfl,rfl,fun k h1 h2=>by simp at h2;omega,fun i j x e _=>by
  have:=(ztv.mp e).1
  rcases two (by simpa using this) with z | z<;>subst z<;>cases e⟩
 refine q _ (fun x=>x=b\/x=ml\/x=rl\/x=tl\/x=nd) (fun x o e nb=>to7 x o (g2 _ _ (s2 x o e nb)) nb) ⟨dx,ml,rl,tl,nd,[.ref p0,.ref p1],[0,2^2^os.length-1],Yo [] [(Sum.inl 0,.int 0),(Sum.inl ((2^2^os.length-1:Nat):Int),.int 1)],?_⟩ (fun x hx=>?_)
 ·refine { hb:=by rw[zf,efs],hm:=to7 _ _ (g2 _ _ hm2) (Ne.symm bm),hr:=to7 _ _ hr3 (Ne.symm brl),ht:=by rw[zB (Ne.symm btl)];exact g7 _ _ tl6,hd:=by rw[zB (Ne.symm bnd)];exact hn7,mr:=mr,mt:=mt,rt:=rt,ord:=ho,bk:=bk0,len:=rfl,rm:=?_,tabs:=?_,nums:=?_,ft:=fun x=>Iff.rfl }
  ·intro j x e
   have:=(ztv.mp e).1
   rcases two (by simpa using this) with z | z<;>subst z<;>cases e
   ·exact⟨p0,rfl,to7 _ _ hp0' (Ne.symm b0)⟩
   ·exact⟨p1,rfl,to7 _ _ hp1' (Ne.symm b1')⟩
  ·refine⟨rfl,fun j t e=>?_⟩
   have:=(ztv.mp e).1
   rcases two (by simpa using this) with z | z<;>subst z<;>cases e
   ·exact yI (ZC _) fun b _=>rfl
   ·exact yI (Ux _) fun b _=>(yF.Qm bk0 _).symm
  ·have z0:Nums [] []:=⟨fun j t e=>by simp at e,fun t _=>rfl,ztI _⟩
   have z1:=z0.snoc (t:=0) (by simp)
   exact z1.snoc (t:=2^2^os.length-1) (fun hm=>by simp at hm;omega)
 ·rcases hx with z | z | z | z | z<;>subst z
  ·exact .inl rfl
  ·exact .inr (.inr fm)
  ·exact .inr (.inr (f2 _ frl))
  ·exact .inr (.inr (fr4 _ htl))
  ·exact .inr (.inr (fr6 _ hnd))
theorem zil (T:Txt P w K mg a):zE P w K mg base zW (k+1) a.xg a.xq yO (zaa K):=by
 refine T.xr.F.ok Ue (fun vs H Q E h=>?_) (fun cdv A outer s H vs Q E hr h=>?_)
 ·obtain⟨l,ns,i,rfl,_⟩:=h
  rfl
 obtain⟨l,ns,i,rfl,hS,q⟩:=h
 refine⟨_,(zj (yr (zO zgK (pv 1) (zF zH rfl T.yJ yc (za (pv 0) zc)) (zR _)) (zm (zG (yq yQ (pv 0) (pv 1) (fun _ _=>rfl)))) zU)
   (zm (zG zx))),?_⟩
 refine⟨_,rfl,_,rfl,l,_,rfl,.inl hS,_,_,rfl,rfl,_,rfl,?_⟩
 refine z8 (fun c=>?_) (fun c=>?_)
 ·have c':(i:Int)<(((ns.map V.int).length:Nat):Int):=of_decide_eq_true c
  rw[zts] at c'
  have hi:i<ns.length:=by omega
  have ec:Zt ns i=ns[i]:=by unfold Zt;rw[ztt hi];rfl
  rw[ec] at q
  exact⟨_,rfl,_,rfl,l,_,i,_,rfl,rfl,hS,vG (by rw[ztu,ztt hi];rfl),q⟩
 ·have hi:ns.length<=i:=by
   refine Nat.le_of_not_lt fun hlt=>c (decide_eq_true ?_)
   rw[zts];omega
  have ec:Zt ns i=0:=by unfold Zt;rw[zt2 hi];rfl
  rw[ec] at q
  exact q
theorem zka (T:Txt P w K mg a):zE P w K mg base zW (k+1) a.YX a.YZ tH J6:=by
 refine T.Ph.F.ok za8 (fun vs H Q E h=>?_) (fun cdv A outer s H vs Q E hr h=>?_)
 ·obtain⟨i,rfl,_⟩:=h
  rfl
 obtain⟨i,rfl,q⟩:=h
 refine⟨_,(zm (zG (Sh (zF vq rfl T.wD xP (za (pv 0) (za (W9 (v:=.ty "int") rfl T.zfa zau rfl) zc))) (Pn (ziB (zF vq rfl T.wD xP (za (pv 0) (za (W9 (v:=.ty "bool") rfl T.zm0 zkL rfl) zc)))))))),?_⟩
 refine⟨_,rfl,_,_,_,true,rfl,.int i,rfl,true,rfl,Xi ?_⟩
 exact⟨_,rfl,_,_,_,false,rfl,.int i,rfl,false,rfl,q⟩
theorem zdR (T:Txt P w K mg a)(zbM:zE P w K mg base zW k a.YX a.YZ tH J6):zE P w K mg base zW (k+1) a.Xp a.Xq Ze (Pz K):=by
 refine T.T5.F.ok Kv (fun vs H Q E h=>?_) (fun cdv A outer s H vs Q E hr h=>?_)
 ·obtain⟨p,q,ns,rfl,_⟩:=h
  rfl
 obtain⟨p,p2,ns,rfl,hp,hq,h9,q⟩:=h
 refine⟨_,(zj (yr (PW.pt (Va (vD (yE (zF vq rfl T.wD xP (za (pv 0) (za (W9 (v:=.ty "list") rfl T.W3 YC rfl) zc))) (fun _=>rfl))) (Wd (zO V0 (zF zH rfl T.yJ yc (za (pv 0) zc)) (zF zH rfl T.yJ yc (za (pv 1) zc)) (zR _))))) (zm (zG wN)) zU)
   (zm (zG (Sh (zF (wV rfl) rfl T.Um Yk (za (vH (wO:=zq Xk) (js:=[]) rfl (by show uZ _ _ "number" [];exact Ja (by decide +kernel)) rfl (yh (pv 0)) (by show ∀j∈([]:List Nat),j<2;decide) (fun cl C s₂ H₂ fp=>(zp zbM hr T.Ph (za (pv 0) zc)))) zc)) (Pn (yV (zmN rfl (hu8 hr)) (pv 0) (pv 1) (zR _))))))),?_⟩
 refine⟨_,rfl,_,_,_,true,rfl,.lst hp,rfl,_,rfl,?_⟩
 refine z8 (fun z=>by cases z) (fun _=>?_)
 refine⟨_,rfl,p,_,rfl,.inl (zP.of hp),?_⟩
 refine⟨_,rfl,p2,_,rfl,.inl hq,rfl,_,rfl,znE rfl ?_⟩
 have hz:(ns.map V.int).length<=sizeLine:=by rw[zts];exact ztL (zN h9)
 refine⟨_,rfl,p,rfl,⟨_,zP.of hp⟩,zk2 (fun i v=>v=.bl true) (zP.of hp) hz ?_ ?_ ?_⟩
 ·intro j x H' hx g
  rw[ztu] at hx
  cases hj:ns[j]? with
  | none=>rw[hj] at hx;cases hx
  | some n=>rw[hj] at hx;cases hx;exact⟨_,rfl,_,rfl,rfl,g⟩
 ·rintro σ' H' Q1 Q2 hQ ⟨v,e,i',z1,z2⟩
  exact⟨v,e,i',z1,hQ _ _ z2⟩
 ·intro us H5 p5 hul hu g5 hp5
  have eu:us=(List.replicate us.length true).map V.bl:=by
   rw[List.map_replicate]
   exact List.eq_replicate_iff.mpr ⟨rfl,fun b hb=>by
    obtain⟨j,hj⟩:=List.getElem?_of_mem hb
    exact hu j b hj⟩
  have g6:=g5.trans (Same.new hp5 (.lst us))
  refine⟨p5,List.replicate us.length true,rfl,zP.of (by rw[zf,<-eu]),?_⟩
  generalize upd H5 p5 (.lst us)=H6 at g6
  have ea:(List.replicate us.length true).all id=true:=by simp
  rw[ea]
  refine⟨true,rfl,Xi ?_⟩
  refine⟨_,rfl,_,rfl,true,(fun z=>by cases z.1),zlS (zP.of (g6 _ _ hp)) (g6.seq hq) rfl fun j x y hx hy=>?_,q _ g6⟩
  rw[hx] at hy
  cases hy
  refine zg9 ?_
  rw[ztu] at hx
  cases hj:ns[j]? with
  | none=>rw[hj] at hx;cases hx
  | some n=>rw[hj] at hx;cases hx;rfl
theorem R3 (T:Txt P w K mg a):zE P w K mg base zW (k+1) a.yL a.yM yx (Yp a.zA):=by
 refine T.wQ.F.ok Rq (fun vs H Q E h=>?_) (fun cdv A outer s H vs Q E hr h=>?_)
 ·obtain⟨b,os,rs,F,j,rfl,_⟩:=h
  rfl
 obtain⟨b,os,rs,F,j,rfl,⟨dx,ml,rl,tl,nd,rv,ts,kvs,h⟩,hk,q⟩:=h
 refine⟨_,(zm (yr (PW.pt (Va (zO zgK (pv 1) zx (zR _)) (Wd (zO zlL (pv 1) (zF zH rfl T.yJ yc (za (Xh (pv 0) rfl) zc)) (zR _))))) (zm Ss) zU)),?_⟩
 have hl:=h.len
 refine⟨_,rfl,_,_,rfl,rfl,_,rfl,z8 (fun c=>absurd (of_decide_eq_true c) (by omega)) (fun _=>?_)⟩
 refine⟨_,rfl,_,rfl,b,a.zA,dx,_,_,rfl,h.hb,T.yH,T.Y4,rfl,rl,_,rfl,.inl (zP.of h.hr),_,_,rfl,rfl,_,rfl,z8 (fun c=>absurd (of_decide_eq_true c) (by omega)) (fun _=>?_)⟩
 exact q
theorem KJ (T:Txt P w K mg a):zE P w K mg base zW (k+1) a.xZ a.wg yZ (XQ a.zA):=by
 refine T.Zf.F.ok Ks (fun vs H Q E h=>?_) (fun cdv A outer s H vs Q E hr h=>?_)
 ·obtain⟨b,os,rs,F,j,rfl,_⟩:=h
  rfl
 obtain⟨b,os,rs,F,j,rfl,⟨dx,ml,rl,tl,nd,rv,ts,kvs,h⟩,hk,q⟩:=h
 refine⟨_,(zm (zG (yq yQ (Xh (pv 0) rfl) (pv 1) (fun _ _=>rfl)))),?_⟩
 have ht:j<ts.length:=by rw[h.tabs.len];exact hk
 have ex:=ztt ht
 refine⟨_,rfl,b,a.zA,dx,_,_,rfl,h.hb,T.yH,T.W0,rfl,_,rfl,tl,_,_,.int (ts[j]:Nat),rfl,rfl,zP.of h.ht,vG (by rw[ztu,ex];rfl),?_⟩
 exact q _ (h.tabs.tab j _ ex)
theorem zbN (T:Txt P w K mg a):zE P w K mg base zW (k+1) a.vM a.vN wz (uz (yP a.zA)):=by
 refine T.Yc.F.ok zbE (fun vs H Q E h=>?_) (fun cdv A outer s H vs Q E hr h=>?_)
 ·obtain⟨b,os,rs,F,rfl,_⟩:=h
  rfl
 obtain⟨b,os,rs,F,rfl,⟨dx,ml,rl,tl,nd,rv,ts,kvs,h⟩,q⟩:=h
 refine⟨_,(zm (zG (xT Uu rfl T.W3 YC (za (Xh (pv 0) rfl) zc)))),?_⟩
 exact⟨_,rfl,b,a.zA,dx,_,_,rfl,h.hb,T.yH,T.tV,rfl,ml,_,rfl,.inl (zP.of h.hm),fun l hl=>q l _ (Same.new hl _) hl zf⟩
theorem zgu (T:Txt P w K mg a)(Tw:zE P w K mg base zW k a.Z9 a.Yb uP V6)(v8:zE P w K mg base zW k a.tO a.tQ vZ (Mj K 20)) :
  zE P w K mg base zW (k+1) a.RN a.RP Vn (zaH K):=by
 refine T.Jr.F.ok zdF (fun vs H Q E h=>?_) (fun cdv A outer s H vs Q E hr h=>?_)
 ·obtain⟨p,l,sn,os,rfl,_⟩:=h
  rfl
 obtain⟨p,l,sn,os,rfl,Jt,hO,hin,h8,hd,q⟩:=h
 refine⟨_,(zm (zG (zcW (wO:=zq Ru) (js:=[0,1]) rfl (by show uZ _ _ "row" ["sentence", "order"];exact Ja (by decide +kernel)) rfl (yh (zp Tw hr T.Tt (za (zF zH rfl T.yJ yc (za (pv 1) zc)) zc))) (by show ∀j∈([0,1]:List Nat),j<2;decide) (fun cl C s₂ H₂ fp=>(zO xu (zp v8 hr T.v7 (za (pv 1) (za (pv 2) (za (pv 0) zc)))) zx (zR _))) (fun cl C s₂ H₂ fp=>(pv 0))))),?_⟩
 refine⟨_,rfl,l,_,rfl,.inl hO,os.length,by rw[zts];rfl,h8,fun rl H1 es g1 frl hrl he=>?_⟩
 have el:=xK he
 have zpZ:(yF.allR os.length).length<=256:=by rw[yF.XS];exact ztO (ztY (n:=2) (by decide) h8) (by decide)
 refine⟨rl,rfl,⟨_,zP.of hrl⟩,?_⟩
 refine zcX (xs:=es.map V.ref) (fun m ys H'=>Same H1 H'/\∃ws:List Addr,ys=ws.map V.ref/\Paired (zfV H H') ws (((yF.allR os.length).take m).filter fun r=>sn.val (xG os (zu r)))) ⟨Same.refl _,[],rfl,.nil⟩ (by rw[zts];exact ztL (zN (by omega))) ?_ ?_ ?_ ?_ ?_
 ·rintro m ys H' hm ⟨gg,ws,rfl,hw⟩
  have:=xK hw
  have:=zt1 (fun r=>sn.val (xG os (zu r))) ((yF.allR os.length).take m)
  rw[ztQ] at this
  exact⟨zP.of (gg _ _ hrl),by rw[zts];omega⟩
 ·rintro m x ys H' hx ⟨gg,ws,rfl,hw⟩
  rw[ztu] at hx
  cases hp:es[m]? with
  | none=>rw[hp] at hx;cases hx
  | some rp =>
   rw[hp] at hx
   cases hx
   obtain⟨r,hr',fr,ar⟩:=Xr he hp
   have rlen:=yF.vQ os.length r (ztx hr')
   have gA:=g1.trans gg
   refine⟨_,rfl,_,rfl,_,rfl,p,l,rp,sn,os,r,rfl,Jt.mono (yN.of gA),gA.seq hO,zP.of (gg _ _ ar),hin,h8,rlen,hd,fun H3 g3=>?_⟩
   refine⟨rfl,_,rfl,?_⟩
   have ed:decide (V.int ((sn.val (xG os (zu r))).toNat:Nat)=V.int 1)=sn.val (xG os (zu r)):=by cases sn.val (xG os (zu r))<;>decide
   rw[ed,zY hr',zt6]
   have gB:=gg.trans g3
   have hwB:Paired (zfV H H3) ws _:=wJ (fun _ _ z=>⟨z.1,g3 _ _ z.2⟩) hw
   cases hn:sn.val (xG os (zu r))
   ·refine Zi ⟨gB,ws,rfl,?_⟩
    rw[List.filter_cons_of_neg (by rw[hn];exact ztw),List.filter_nil,List.append_nil]
    exact hwB
   ·refine Xi ⟨_,rfl,gB,ws++[rp],by rw[ztG];rfl,?_⟩
    rw[List.filter_cons_of_pos (p:=fun r=>sn.val (xG os (zu r))) hn]
    exact Vs hwB (.cons ⟨fr,gB _ _ ar⟩ .nil)
 ·rintro σ' H' Q1 Q2 hQ ⟨v1,e1,v2,e2,v3,e3,p',l',rl',s',os',r',y1,y2,y3,y4,y5,y6,y7,y8,y9⟩
  exact⟨v1,e1,v2,e2,v3,e3,p',l',rl',s',os',r',y1,y2,y3,y4,y5,y6,y7,y8,fun H0 g0=>let ⟨s1,b',z6,z7⟩:=y9 H0 g0;⟨s1,b',z6,hQ _ _ z7⟩⟩
 ·rintro σ' H' Q1 Q2 hQ ⟨v,e1,z⟩
  exact⟨v,e1,hQ _ _ z⟩
 ·rintro ys H' yp ⟨gg,ws,rfl,hw⟩ hyp
  rw[zts,el,ztV] at hw
  have gn:=Same.new hyp (.lst (ws.map V.ref))
  exact q yp _ ws (g1.trans (gg.trans gn)) ((g1.trans gg).free hyp) zf (wJ (fun _ _ z=>⟨z.1,gn _ _ z.2⟩) hw)
theorem zgv (T:Txt P w K mg a):zE P w K mg base zW (k+1) a.X6 a.X7 Yr XR:=by
 refine T.QB.F.ok zgi (fun vs H Q E h=>?_) (fun cdv A outer s H vs Q E hr h=>?_)
 ·obtain⟨N,M,n,f,g,rfl,_⟩:=h
  rfl
 obtain⟨N,M,n,f,g,rfl,tb,tg,q⟩:=h
 refine⟨_,(zm (zG (zL Qe (pv 0) (zL tZ (pv 0) (pv 1))))),?_⟩
 refine⟨_,rfl,_,rfl,_,rfl,N,M,rfl,rfl,N,N&&&M,rfl,rfl,q _ (yI (yU.Uy tb (yU.tY tb tg)) fun b _=>?_)⟩
 show(f b != (f b&&g b))=(f b&&!g b)
 cases f b<;>cases g b<;>rfl
theorem JR (T:Txt P w K mg a)(yX:zE P w K mg base zW k a.Yu a.Yv Zu Wj):zE P w K mg base zW (k+1) a.Wy a.Wz ZQ (Vt K):=by
 refine T.RQ.F.ok xY (fun vs H Q E h=>?_) (fun cdv A outer s H vs Q E hr h=>?_)
 ·obtain⟨N,n,f,pl,ps,rfl,_⟩:=h
  rfl
 obtain⟨N,n,f,pl,ps,rfl,hn,tb,hpl,hps,zoe,q⟩:=h
 refine⟨_,(zj (zJ 3 xY.nd (yK zc))
   (zj (xJ PassesOwn.never rfl (yh (pv 1)) (z9 (i:=4) xY.nd rfl (Or.inl rfl)) (zj (zJ 5 xY.nd (zp yX hr T.Yy (za (pv 0) (za (pv 4) (za zx (za (pv 2) zc))))))
   (zj (zJ 6 xY.nd (NT (zO V0 (pv 5) zx (zR _)) zx zx))
   (zj (zJ 0 xY.nd (zp yX hr T.Yy (za (pv 0) (za (pv 4) (za (pv 6) (za (pv 2) zc))))))
   (zm (yu (uw PySem.F.plainAttrs_list PySem.F.slot_list_append PySem.F.type_list_append wU (pv 3) (za (pv 6) zc))))))))
   (zm (zG (pv 3))))),?_⟩
 refine⟨by show 0<=sizeLine;decide,fun l hl=>?_⟩
 have g0:=Same.new hl (.lst [])
 refine⟨_,rfl,pl,rfl,⟨_,g0.seq hpl⟩,?_⟩
 refine wR (xs:=ps.map fun p=>V.int (p:Nat)) (fun i σ H'=>∃(M:Nat) (g:Nat->Bool) (r:List Bool) (f4 f5 f6:Option V),Same H H'/\H' l=some (.lst (zX r))/\zV n M g/\r.length=i/\yF.fvP n f ps=r++yF.fvP n g (ps.drop i)/\σ=[some (.int M),some (.ref pl),some (.int n),some (.ref l),f4,f5,f6])
  ⟨N,f,[],_,_,_,g0,zf,tb,rfl,rfl,rfl⟩ ?_ ?_ ?_
 ·rintro i σ H' _ ⟨M,g,r,f4,f5,f6,gg,_⟩
  exact gg.seq hpl
 ·rintro i x σ H' hx ⟨M,g,r,f4,f5,f6,gg,hL,tg,hr',e,rfl⟩
  rw[ztu] at hx
  cases hp:ps[i]? with
  | none=>rw[hp] at hx;cases hx
  | some p =>
   rw[hp] at hx
   cases hx
   have hpn:=hps p (ztx hp)
   obtain⟨lt,e'⟩:=ztv.mp hp
   rw[List.drop_eq_getElem_cons lt,e'] at e
   refine⟨_,rfl,_,rfl,_,rfl,M,p,n,false,g,rfl,hpn,hn,tg,fun R tr=>?_⟩
   have tz:=yF.ZC tr
   refine⟨_,rfl,rfl,_,rfl,?_⟩
   have ee:(!decide (V.int (R:Nat)=V.int 0))=yF.anyB n fun b=>g (zM b p false):=by
    cases hz:yF.anyB n fun b=>g (zM b p false) with
    | true =>
     rw[hz] at tz
     rw[decide_eq_false fun z=>by injection z with z;exact absurd (decide_eq_true (show R=0 by omega)) (by rw[tz];exact ztw)]
     rfl
    | false =>
     rw[hz] at tz
     have z:R=0:=of_decide_eq_true tz
     subst z
     rfl
   rw[ee]
   cases hz:yF.anyB n fun b=>g (zM b p false) with
   | true =>
    refine z8 (fun _=>?_) (fun c=>absurd rfl c)
    refine⟨_,rfl,_,rfl,_,rfl,_,rfl,M,p,n,false,g,rfl,hpn,hn,tg,fun R2 t2=>?_⟩
    refine⟨_,rfl,.inl ⟨rfl,_,zP.of hL⟩,_,rfl,l,_,_,rfl,rfl,hL,?_,?_⟩
    ·unfold zX;rw[zts,hr'];exact zN (by omega)
    ·refine⟨R2,_,r++[false],_,_,_,gg.over hl _,by rw[zf];unfold zX;rw[ztG];rfl,t2,by rw[ztA,hr'];rfl,?_,rfl⟩
     rw[e,List.append_assoc]
     show r++(_::_)=r++([false]++_)
     rw[hz]
     rfl
   | false =>
    refine z8 (fun c=>absurd c ztw) (fun _=>?_)
    refine⟨_,rfl,_,rfl,_,rfl,_,rfl,M,p,n,true,g,rfl,hpn,hn,tg,fun R2 t2=>?_⟩
    refine⟨_,rfl,.inl ⟨rfl,_,zP.of hL⟩,_,rfl,l,_,_,rfl,rfl,hL,?_,?_⟩
    ·unfold zX;rw[zts,hr'];exact zN (by omega)
    ·refine⟨R2,_,r++[true],_,_,_,gg.over hl _,by rw[zf];unfold zX;rw[ztG];rfl,t2,by rw[ztA,hr'];rfl,?_,rfl⟩
     rw[e,List.append_assoc]
     show r++(_::_)=r++([true]++_)
     rw[hz]
     rfl
 ·rintro σ H' ⟨M,g,r,f4,f5,f6,gg,hL,tg,hr',e,rfl⟩
  rw[zts,List.drop_length] at e
  have e1:yF.fvP n f ps=r:=by rw[e];exact List.append_nil _
  refine⟨_,rfl,q l H' gg hl ?_⟩
  rw[e1]
  exact hL
theorem zdS (T:Txt P w K mg a)(zbi:zE P w K mg base zW k a.Wy a.Wz ZQ (Vt K)):zE P w K mg base zW (k+1) a.Ry a.Rz Ve PB:=by
 refine T.Jo.F.ok zdA (fun vs H Q E h=>?_) (fun cdv A outer s H vs Q E hr h=>?_)
 ·obtain⟨N,n,f,rfl,_⟩:=h
  rfl
 obtain⟨N,n,f,rfl,hn,tb,any,q⟩:=h
 refine⟨_,(zm (zG (zp zbi hr T.RQ (za (pv 0) (za (zdi rfl rfl T.W3 rfl T.Yd (za (pv 1) zc)) (za (pv 1) zc)))))),?_⟩
 refine⟨_,rfl,_,rfl,n,rfl,by omega,fun pl hpl=>?_⟩
 have g0:=Same.new hpl (.lst (Jd n))
 refine⟨_,rfl,N,n,f,pl,List.range n,rfl,hn,tb,zP.of zf,fun p hp=>List.mem_range.mp hp,by rw[ztK];omega,fun l H' g hl hl'=>?_⟩
 exact q l H' _ (g0.trans g) (g0.free hl) hl' (yF.zfY any)
theorem zbj {d:Nat}(T:Txt P w K mg a)(v8:zE P w K mg base zW k a.tO a.tQ vZ (Mj K d)):zE P w K mg base zW (k+1) a.tO a.tQ vZ (Mj K (d+1)):=by
 refine T.v7.F.ok xW (fun vs H Q E h=>?_) (fun cdv A outer s H vs Q E hr h=>?_)
 ·obtain⟨p,l,rl,sn,os,r,rfl,_⟩:=h
  rfl
 obtain⟨p,l,rl,sn,os,r,rfl,Jt,hO,hR,hin,h8,hrl,hd,q⟩:=h
 refine⟨_,(zj (zJ 3 xW.nd (yq wI (pv 0) zx (fun _ _=>rfl)))
   (zj (yr (zO R9 (pv 3) (uY (za zZ (za zZ zc))) (by with_unfolding_all rfl)) (zm (zG (xT Lw rfl T.zfa zau (za (yV xu (pv 3) zZ (zR _)) zc)))) zU)
   (zj (yr (zO xu (pv 3) zZ (zR _)) (zm (zG (yq yQ (pv 2) (uw PySem.F.plainAttrs_list PySem.F.slot_list_index PySem.F.type_list_index Sx (pv 1) (za (yq wI (pv 0) zx (fun _ _=>rfl)) zc)) (fun _ _=>rfl)))) zU)
   (zj (yr (zO R9 (pv 3) (uY (za zZ (za zZ zc))) (by with_unfolding_all rfl)) (zj (zJ 6 xW.nd (uw PySem.F.plainAttrs_list PySem.F.slot_list_index PySem.F.type_list_index Sx (pv 1) (za (yq wI (pv 0) zx (fun _ _=>rfl)) zc)))
   (zj (zJ 7 xW.nd (zp v8 hr T.v7 (za (yq wI (pv 0) zx (fun _ _=>rfl)) (za (pv 1) (za (zL U0 (zL U0 (u6 J0 (pv 2) Xw (Zz (pv 6))) (yK (za zx zc))) (u6 J0 (pv 2) (Zz (zL wH (pv 6) zx)) Xw)) zc)))))
   (zj (zJ 8 xW.nd (zp v8 hr T.v7 (za (yq wI (pv 0) zx (fun _ _=>rfl)) (za (pv 1) (za (zL U0 (zL U0 (u6 J0 (pv 2) Xw (Zz (pv 6))) (yK (za zx zc))) (u6 J0 (pv 2) (Zz (zL wH (pv 6) zx)) Xw)) zc)))))
   (zm (zG (NT (zO xu (pv 3) zZ (zR _)) (zF (Ls rfl) rfl T.zj5 zfW (za (pv 7) (za (pv 8) zc))) (zF (zhE rfl) rfl T.zog zmR (za (pv 7) (za (pv 8) zc))))))))) zU)
   (zj (zJ 4 xW.nd (zp v8 hr T.v7 (za (yq wI (pv 0) zx (fun _ _=>rfl)) (za (pv 1) (za (pv 2) zc)))))
   (zj (yr (zO xu (pv 3) zZ (zR _)) (zm (zG (zL Lq zx (pv 4)))) zU)
   (zj (zJ 5 xW.nd (zp v8 hr T.v7 (za (yq wI (pv 0) zx (fun _ _=>rfl)) (za (pv 1) (za (pv 2) zc)))))
   (zm (zG (zde (zb7 hr) (zg8 (V5 zZ (zL Lr (pv 4) (pv 5)) (V5 zZ (zF (Ls rfl) rfl T.zj5 zfW (za (pv 4) (za (pv 5) zc))) (V5 zZ (xT Lw rfl T.zfa zau (za (yV V0 (pv 4) (pv 5) (zR _)) zc)) (V5 zZ (zF (Ls rfl) rfl T.zj5 zfW (za (zL Lq zx (pv 4)) (za (pv 5) zc))) zg7)))) rfl rfl (List.cons_ne_nil _ _) (Nat.le_of_ble_eq_true rfl)) (pv 3) (fun _ _=>rfl))))))))))),?_⟩
 obtain⟨zs,c1,c2,c3,c4,c5⟩:=Qi Jt
 refine⟨_,rfl,p,_,0,_,rfl,rfl,wG.of c1,at0,?_⟩
 refine⟨_,rfl,by show 2<=sizeLine;decide,fun z1 hz1=>⟨z1,_,rfl,.inr (wG.of zf),rfl,rfl,_,rfl,?_⟩⟩
 have g1:=Same.new hz1 (.tup [.str "yes", .str "no"])
 cases sn with
 | c0 y =>
  cases y with
  | true=>exact z8 (fun _=>⟨_,rfl,rfl,.inr ⟨_,rfl,q _ g1⟩⟩) (fun c=>absurd (zdb (.inl rfl)) c)
  | false=>exact z8 (fun _=>⟨_,rfl,rfl,.inr ⟨_,rfl,q _ g1⟩⟩) (fun c=>absurd (zdb (.inr rfl)) c)
 | mk x =>
  refine z8 (fun c=>absurd c (Kd (show Str.ofString "mark" ≠ Str.ofString "yes" by decide +kernel) (show Str.ofString "mark" ≠ Str.ofString "no" by decide +kernel))) (fun _=>?_)
  have isp':H p=some (.tup [.str "mark", .str x]):=Jt
  obtain⟨i1,i2,i3⟩:=XC (show x∈os from hin)
  refine⟨_,rfl,rfl,_,rfl,z8 (fun _=>?_) (fun c=>absurd (decide_eq_true rfl) c)⟩
  refine⟨_,rfl,_,rfl,.inl ⟨rfl,_,g1.seq hO⟩,_,rfl,p,_,1,_,rfl,rfl,wG.of (g1 _ _ isp'),at1,l,_,.str x,_,rfl,rfl,g1.seq hO,rfl,Ym _,i1,rl,_,_,_,rfl,rfl,g1.seq hR,vG (zkV (by rw[hrl];exact i2)),?_⟩
  rw[<-xQ]
  exact q _ g1
 | nt s1 =>
  refine z8 (fun c=>absurd c (Kd (show Str.ofString "not" ≠ Str.ofString "yes" by decide +kernel) (show Str.ofString "not" ≠ Str.ofString "no" by decide +kernel))) (fun _=>?_)
  refine⟨_,rfl,rfl,_,rfl,z8 (fun c=>absurd c (ne_str (show Str.ofString "not" ≠ Str.ofString "mark" by decide +kernel))) (fun _=>?_)⟩
  refine⟨_,rfl,by show 2<=sizeLine;decide,fun z2 hz2=>⟨z2,_,rfl,.inr (wG.of zf),rfl,rfl,_,rfl,?_⟩⟩
  refine z8 (fun c=>absurd c (Kd (show Str.ofString "not" ≠ Str.ofString "some" by decide +kernel) (show Str.ofString "not" ≠ Str.ofString "each" by decide +kernel))) (fun _=>?_)
  have g2:=g1.trans (Same.new hz2 (.tup [.str "some", .str "each"]))
  obtain⟨q1,e1,is1⟩:=Jt
  have dp:s1.depth<=d:=by have:1+s1.depth<=d+1:=hd;omega
  refine⟨_,rfl,p,_,1,_,rfl,rfl,wG.of (g2 _ _ e1),at1,_,rfl,_,rfl,q1,l,rl,s1,os,r,rfl,is1.mono (yN.of g2),g2.seq hO,g2.seq hR,hin,h8,hrl,dp,fun H3 g3=>?_⟩
  refine⟨_,rfl,rfl,_,rfl,z8 (fun _=>?_) (fun c=>absurd (decide_eq_true rfl) c)⟩
  refine⟨_,rfl,1,_,rfl,rfl,?_⟩
  have e:(1:Int)-(((s1.val (xG os (zu r))).toNat:Nat):Int)=(((!s1.val (xG os (zu r))).toNat:Nat):Int):=by cases s1.val (xG os (zu r))<;>rfl
  show Q (.int ((1:Int)-(((s1.val (xG os (zu r))).toNat:Nat):Int))) H3
  rw[e]
  exact q _ (g2.trans g3)
 | b2 o s1 s2 =>
  have w0:w2 o≠Str.ofString "yes" := zjf o
  have w1:w2 o≠Str.ofString "no" := zlQ o
  have w3:w2 o≠Str.ofString "mark" := zgX o
  have w4:w2 o≠Str.ofString "not" := zjg o
  have w5:w2 o≠Str.ofString "some" := zgY o
  have w6:w2 o≠Str.ofString "each" := zgZ o
  refine z8 (fun c=>absurd c (Kd w0 w1)) (fun _=>?_)
  refine⟨_,rfl,rfl,_,rfl,z8 (fun c=>absurd c (ne_str w3)) (fun _=>?_)⟩
  refine⟨_,rfl,by show 2<=sizeLine;decide,fun z2 hz2=>⟨z2,_,rfl,.inr (wG.of zf),rfl,rfl,_,rfl,?_⟩⟩
  refine z8 (fun c=>absurd c (Kd w5 w6)) (fun _=>?_)
  have g2:=g1.trans (Same.new hz2 (.tup [.str "some", .str "each"]))
  obtain⟨q1,q2,e1,is1,is2⟩:=Jt
  have dp:1+max s1.depth s2.depth<=d+1:=hd
  refine⟨_,rfl,p,_,1,_,rfl,rfl,wG.of (g2 _ _ e1),at1,_,rfl,_,rfl,q1,l,rl,s1,os,r,rfl,is1.mono (yN.of g2),g2.seq hO,g2.seq hR,hin.1,h8,hrl,by omega,fun H3 g3=>?_⟩
  have g23:=g2.trans g3
  refine⟨_,rfl,rfl,_,rfl,z8 (fun c=>absurd c (ne_str w4)) (fun _=>?_)⟩
  refine⟨_,rfl,p,_,2,_,rfl,rfl,wG.of (g23 _ _ e1),at2,_,rfl,_,rfl,q2,l,rl,s2,os,r,rfl,is2.mono (yN.of g23),g23.seq hO,g23.seq hR,hin.2,h8,hrl,by omega,fun H4 g4=>?_⟩
  have g24:=g23.trans g4
  have q':∀H5,Same H4 H5->Q (.int (((Sn.op2 o (s1.val (xG os (zu r))) (s2.val (xG os (zu r)))).toNat:Nat):Int)) H5:=fun H5 g5=>q _ (g24.trans g5)
  clear q
  generalize s1.val (xG os (zu r))=A1 at q' ⊢
  generalize s2.val (xG os (zu r))=A2 at q' ⊢
  refine fun dp hdp=>?_
  refine⟨_,rfl,_,rfl,_,_,rfl,rfl,.inl ?_,?_⟩
  ·cases A1<;>exact⟨by decide,by decide⟩
  refine⟨_,rfl,_,rfl,_,_,rfl,?_⟩
  refine⟨_,rfl,_,rfl,rfl,.inr ⟨_,rfl,?_⟩⟩
  refine⟨_,rfl,1,_,rfl,rfl,_,rfl,_,_,rfl,?_⟩
  refine⟨zf,([(Sum.inr "and", _),(Sum.inr "or", _),(Sum.inr "either", _),(Sum.inr "if", _)]:List (Key×V)),rfl,(by show 4<=15;decide),?_⟩
  rw[zgD]
  have gd:=Same.new hdp (.dK (Yo [] ([(Sum.inr "and", V.int ((A1.toNat:Int)*(A2.toNat:Int))),(Sum.inr "or", V.int (if (A2.toNat:Int) > (A1.toNat:Int) then (A2.toNat:Int) else (A1.toNat:Int))),(Sum.inr "either", V.int (if (!decide (V.int (A1.toNat:Nat)=V.int (A2.toNat:Nat)))=true then 1 else 0)),(Sum.inr "if", V.int (if (A2.toNat:Int) > 1-(A1.toNat:Int) then (A2.toNat:Int) else 1-(A1.toNat:Int)))]:List (Key×V))))
  have z:=Jx.k (k:=(Sum.inr (w2 o):Key)) (zf (H:=H4) (a:=dp) (o:=.dK (Yo [] ([(Sum.inr "and", V.int ((A1.toNat:Int)*(A2.toNat:Int))),(Sum.inr "or", V.int (if (A2.toNat:Int) > (A1.toNat:Int) then (A2.toNat:Int) else (A1.toNat:Int))),(Sum.inr "either", V.int (if (!decide (V.int (A1.toNat:Nat)=V.int (A2.toNat:Nat)))=true then 1 else 0)),(Sum.inr "if", V.int (if (A2.toNat:Int) > 1-(A1.toNat:Int) then (A2.toNat:Int) else 1-(A1.toNat:Int)))]:List (Key×V)))))
  rw[zn2] at z
  refine⟨_,rfl,dp,_,rfl,z,?_⟩
  have q2:=q' _ gd
  rcases zmK o with e | e | e | e<;>subst e<;>cases A1<;>cases A2<;>exact q2
 | q1 o x s1 =>
  obtain⟨hx,hs1⟩:=hin
  obtain⟨i1,i2,i3⟩:=XC hx
  have wq:(Sn.q1 o x s1).word≠Str.ofString "yes" /\ (Sn.q1 o x s1).word≠Str.ofString "no" /\ (Sn.q1 o x s1).word≠Str.ofString "mark" := by
   rw[zc4];exact znR o
  have wi:(Sn.q1 o x s1).word=Str.ofString "some" \/ (Sn.q1 o x s1).word=Str.ofString "each" := by cases o;exact .inr rfl;exact .inl rfl
  refine z8 (fun c=>absurd c (Kd wq.1 wq.2.1)) (fun _=>?_)
  refine⟨_,rfl,rfl,_,rfl,z8 (fun c=>absurd c (ne_str wq.2.2)) (fun _=>?_)⟩
  refine⟨_,rfl,by show 2<=sizeLine;decide,fun z2 hz2=>⟨z2,_,rfl,.inr (wG.of zf),rfl,rfl,_,rfl,?_⟩⟩
  refine z8 (fun _=>?_) (fun c=>absurd (zdb wi) c)
  have g2:=g1.trans (Same.new hz2 (.tup [.str "some", .str "each"]))
  obtain⟨qq,e1',is1⟩:=Jt
  have e1:H p=some (.tup [.str (Sn.q1 o x s1).word,.str x,.ref qq]):=by rw[zc4];exact e1'
  have dp:s1.depth<=d:=by have:1+s1.depth<=d+1:=hd;omega
  have hlr:(zX r).length=r.length:=zts _
  have ixr:ix os x<r.length:=by rw[hrl];exact i2
  have l9:r.length<=8:=by rw[hrl];exact h8
  refine⟨_,rfl,.inl ⟨rfl,_,g2.seq hO⟩,_,rfl,p,_,1,_,rfl,rfl,wG.of (g2 _ _ e1),at1,l,_,.str x,_,rfl,rfl,g2.seq hO,rfl,Ym _,i1,?_⟩
  refine⟨_,rfl,p,_,2,_,rfl,rfl,wG.of (g2 _ _ e1),at2,_,rfl,_,rfl,_,rfl,_,rfl,rl,_,rfl,g2.seq hR,fun sa5 zp0=>?_⟩
  rw[zer] at *
  have ga5:=g2.trans (Same.new zp0 (.lst ((zX r).take (ix os x))))
  refine⟨by show 1<=sizeLine;decide,fun sb5 zoo=>?_⟩
  have gb5:=ga5.trans (Same.new zoo (.lst [.int 0]))
  have ea5:=(Same.new zoo (.lst [.int 0])) sa5 (.lst ((zX r).take (ix os x))) zf
  refine⟨sa5,sb5,_,_,rfl,rfl,zP.of ea5,zP.of zf,by rw[ztQ,hlr];exact ztL (zN (by show min _ _+1<=1000;omega)),fun sc5 zp1=>?_⟩
  have gc5:=gb5.trans (Same.new zp1 (.lst ((zX r).take (ix os x)++[.int 0])))
  refine⟨_,rfl,_,rfl,_,1,rfl,rfl,_,rfl,rl,_,rfl,gc5.seq hR,fun sd5 zop=>?_⟩
  have ei5:QD (zX r) (some ((ix os x:Nat)+1)) none=(zX r).drop (ix os x+1):=zew (n:=ix os x+1)
  rw[ei5] at *
  have gd5:=gc5.trans (Same.new zop (.lst ((zX r).drop (ix os x+1))))
  have ec5:=(Same.new zop (.lst ((zX r).drop (ix os x+1)))) sc5 (.lst ((zX r).take (ix os x)++[.int 0])) zf
  refine⟨sc5,sd5,_,_,rfl,rfl,zP.of ec5,zP.of zf,by rw[ztA,ztQ,List.length_drop,hlr];exact ztL (zN (by show min _ _+1+_<=1000;omega)),fun se5 zp2=>?_⟩
  have er5:(zX r).take (ix os x)++[V.int 0]++(zX r).drop (ix os x+1)=zX (r.set (ix os x) false):=zha ixr false
  rw[er5]
  have ge5:=gd5.trans (Same.new zp2 (.lst (zX (r.set (ix os x) false))))
  refine⟨qq,l,se5,s1,os,r.set (ix os x) false,rfl,is1.mono (yN.of ge5),ge5.seq hO,zP.of zf,hs1,h8,by rw[List.length_set];exact hrl,dp,fun H5 gf5=>?_⟩
  rw[zg0 hs1 hx hrl]
  have gg5:=ge5.trans gf5
  refine⟨_,rfl,p,_,2,_,rfl,rfl,wG.of (gg5 _ _ e1),at2,_,rfl,_,rfl,_,rfl,_,rfl,rl,_,rfl,gg5.seq hR,fun sa6 zp5=>?_⟩
  rw[zer] at *
  have ga6:=gg5.trans (Same.new zp5 (.lst ((zX r).take (ix os x))))
  refine⟨by show 1<=sizeLine;decide,fun sb6 zoq=>?_⟩
  have gb6:=ga6.trans (Same.new zoq (.lst [.int 1]))
  have ea6:=(Same.new zoq (.lst [.int 1])) sa6 (.lst ((zX r).take (ix os x))) zf
  refine⟨sa6,sb6,_,_,rfl,rfl,zP.of ea6,zP.of zf,by rw[ztQ,hlr];exact ztL (zN (by show min _ _+1<=1000;omega)),fun sc6 zp6=>?_⟩
  have gc6:=gb6.trans (Same.new zp6 (.lst ((zX r).take (ix os x)++[.int 1])))
  refine⟨_,rfl,_,rfl,_,1,rfl,rfl,_,rfl,rl,_,rfl,gc6.seq hR,fun sd6 zor=>?_⟩
  have ei6:QD (zX r) (some ((ix os x:Nat)+1)) none=(zX r).drop (ix os x+1):=zew (n:=ix os x+1)
  rw[ei6] at *
  have gd6:=gc6.trans (Same.new zor (.lst ((zX r).drop (ix os x+1))))
  have ec6:=(Same.new zor (.lst ((zX r).drop (ix os x+1)))) sc6 (.lst ((zX r).take (ix os x)++[.int 1])) zf
  refine⟨sc6,sd6,_,_,rfl,rfl,zP.of ec6,zP.of zf,by rw[ztA,ztQ,List.length_drop,hlr];exact ztL (zN (by show min _ _+1+_<=1000;omega)),fun se6 zp7=>?_⟩
  have er6:(zX r).take (ix os x)++[V.int 1]++(zX r).drop (ix os x+1)=zX (r.set (ix os x) true):=zha ixr true
  rw[er6]
  have ge6:=gd6.trans (Same.new zp7 (.lst (zX (r.set (ix os x) true))))
  refine⟨qq,l,se6,s1,os,r.set (ix os x) true,rfl,is1.mono (yN.of ge6),ge6.seq hO,zP.of zf,hs1,h8,by rw[List.length_set];exact hrl,dp,fun H6 gf6=>?_⟩
  rw[zg0 hs1 hx hrl]
  have gg6:=ge6.trans gf6
  have q':Q (.int ((((Sn.q1 o x s1).val (xG os (zu r))).toNat:Nat):Int)) H6:=q _ gg6
  clear q
  cases o with
  | true =>
   refine⟨_,rfl,rfl,_,rfl,z8 (fun _=>?_) (fun c=>absurd (decide_eq_true rfl) c)⟩
   refine⟨_,rfl,_,rfl,_,_,rfl,?_⟩
   have e9:((((Sn.q1 true x s1).val (xG os (zu r))).toNat:Nat):Int)=(((s1.val (fun y=>if y=x then true else xG os (zu r) y)||s1.val (fun y=>if y=x then false else xG os (zu r) y)).toNat:Nat):Int):=rfl
   rw[e9] at q'
   revert q'
   cases s1.val (fun y=>if y=x then true else xG os (zu r) y)<;>cases s1.val (fun y=>if y=x then false else xG os (zu r) y)<;>exact id
  | false =>
   refine⟨_,rfl,rfl,_,rfl,z8 (fun c=>absurd c (ne_str (show Str.ofString "each" ≠ Str.ofString "some" by decide +kernel))) (fun _=>?_)⟩
   refine⟨_,rfl,_,rfl,_,_,rfl,?_⟩
   have e9:((((Sn.q1 false x s1).val (xG os (zu r))).toNat:Nat):Int)=(((s1.val (fun y=>if y=x then true else xG os (zu r) y)&&s1.val (fun y=>if y=x then false else xG os (zu r) y)).toNat:Nat):Int):=rfl
   rw[e9] at q'
   revert q'
   cases s1.val (fun y=>if y=x then true else xG os (zu r) y)<;>cases s1.val (fun y=>if y=x then false else xG os (zu r) y)<;>exact id
theorem zcG (T:Txt P w K mg a):∀d:Nat,zE P w K mg base zW (k+d) a.tO a.tQ vZ (Mj K d)
 | 0=>by
  refine⟨fun vs H Q E h=>?_,fun A outer s H args us vs Q E _ _ _ _ h=>?_⟩
  ·obtain⟨p,l,rl,sn,os,r,rfl,_⟩:=h
   rfl
  ·obtain⟨p,l,rl,sn,os,r,_,_,_,_,_,_,_,hd,_⟩:=h
   have:=Sn.Qc sn
   omega
 | d+1=>zbj T (zcG T d)
theorem zfh (T:Txt P w K mg a):zE P w K mg base zW (k+1) a.Z9 a.Yb uP V6:=by
 refine T.Tt.F.ok vY (fun vs H Q E h=>?_) (fun cdv A outer s H vs Q E hr h=>?_)
 ·obtain⟨n,rfl,_⟩:=h
  rfl
 obtain⟨n,rfl,n8,q⟩:=h
 refine⟨_,(zj (zJ 1 vY.nd (yK (za (yK zc) zc)))
   (zj (xJ PassesOwn.never rfl (Zq rfl T.Yd (za (pv 0) zc)) (z9 (i:=2) vY.nd rfl (Or.inl rfl)) (zj (zJ 3 vY.nd (yK zc))
   (zj (xJ PassesOwn.never rfl (yh (pv 1)) (z9 (i:=4) vY.nd rfl (Or.inl rfl)) (zm (yu (uw PySem.F.plainAttrs_list PySem.F.slot_list_extend PySem.F.type_list_extend Lz (pv 3) (za (yK (za (zL (zaJ rfl) (pv 4) (yK (za zx zc))) (za (zL (zaJ rfl) (pv 4) (yK (za zx zc))) zc))) zc)))))
   (zm (zJ 1 vY.nd (pv 3))))))
   (zm (zG (pv 1))))),?_⟩
 have p256:∀i,i<=n->(yF.allR i).length<=256:=fun i hi=>by rw[yF.XS];exact ztO (ztY (n:=2) (by decide) (show i<=8 by omega)) (by decide)
 refine⟨by show 0<=sizeLine;decide,fun q0 hq0=>⟨by show 1<=sizeLine;decide,fun l0 hl0=>?_⟩⟩
 have g0:=(Same.new hq0 (.lst [])).trans (Same.new hl0 (.lst [.ref q0]))
 have e2:=(Same.new hl0 (.lst [.ref q0])) q0 (.lst []) zf
 have fl0:H l0=none:=(Same.new hq0 _).free hl0
 refine⟨_,rfl,(n:Int),rfl,by omega,by omega,?_⟩
 rw[zt5]
 refine Zr (fun i σ H'=>∃(l:Addr) (es:List Addr) (f2 f3 f4:Option V),Same H H'/\H l=none/\H' l=some (.lst (es.map V.ref))/\Paired (zfV H H') es (yF.allR i)/\σ=[some (.int (n:Nat)),some (.ref l),f2,f3,f4])
  ⟨l0,[q0],_,_,_,g0,fl0,zf,.cons ⟨hq0,e2⟩ .nil,rfl⟩ ?_ ?_
 ·rintro i σ H2 hi ⟨l,es,f2,f3,f4,g2,fl,hl,he,rfl⟩
  have el:=xK he
  have lt:=p256 i (by omega)
  refine⟨by show 0<=sizeLine;decide,fun lg hlg=>?_⟩
  have g3:=Same.new hlg (.lst [])
  have flg:H lg=none:=g2.free hlg
  refine⟨_,rfl,l,rfl,⟨_,zP.of (g3 _ _ hl)⟩,?_⟩
  refine wR (xs:=es.map V.ref) (fun m σ H'=>∃(us:List Addr) (f4:Option V),Same H2 H'/\H' lg=some (.lst (us.map V.ref))/\Paired (zhX lg H H') us (((yF.allR i).take m).flatMap fun r=>[r++[false],r++[true]])/\σ=[some (.int (n:Nat)),some (.ref l),some (.int (0+(i:Nat))),some (.ref lg),f4])
   ⟨[],_,g3,zf,.nil,rfl⟩ ?_ ?_ ?_
  ·rintro m σ H' _ ⟨us,f4,g,_⟩
   exact zP.of (g _ _ hl)
  ·rintro m x σ H3 hx ⟨us,f4,g,hL0,hu,rfl⟩
   rw[ztu] at hx
   cases hp:es[m]? with
   | none=>rw[hp] at hx;cases hx
   | some p =>
    rw[hp] at hx
    cases hx
    obtain⟨e,hee,fp,hpt⟩:=Xr he hp
    have hp2:=g _ _ hpt
    have eln:=yF.vQ i e (ztx hee)
    have ul:=xK hu
    rw[yF.Kg _ (fun _=>rfl),ztQ] at ul
    have gr:Same H3 H3:=Same.refl _
    refine⟨_,rfl,.inl ⟨rfl,_,zP.of hL0⟩,?_⟩
    refine⟨_,rfl,by show 1<=sizeLine;decide,fun a0 ha0=>?_⟩
    have ka0:=Same.new ha0 (.lst [.int 0])
    refine⟨p,a0,_,_,rfl,rfl,zP.of ((gr.trans ka0) _ _ hp2),zP.of zf,by rw[zts,eln];exact ztO (show i+1<=9 by omega) (by decide),fun r0 hr0=>?_⟩
    have nr0:r0≠lg:=Ne.symm (zy ((gr.trans ka0) _ _ hL0) hr0)
    have fr0:H r0=none:=(g2.trans (g.trans (gr.trans ka0))).free hr0
    have kb0:=(gr.trans ka0).trans (Same.new hr0 (.lst (zX e++[.int 0])))
    have er0:upd (upd H3 a0 (.lst [.int 0])) r0 (.lst (zX e++[.int 0])) r0=some (.lst (zX (e++[false]))):=by rw[zf];unfold zX;rw[ztG];rfl
    generalize upd (upd H3 a0 (.lst [.int 0])) r0 (.lst (zX e++[.int 0]))=Hb0 at kb0 er0
    refine⟨_,rfl,by show 1<=sizeLine;decide,fun a1 ha1=>?_⟩
    have ka1:=Same.new ha1 (.lst [.int 1])
    refine⟨p,a1,_,_,rfl,rfl,zP.of ((kb0.trans ka1) _ _ hp2),zP.of zf,by rw[zts,eln];exact ztO (show i+1<=9 by omega) (by decide),fun r1 hr1=>?_⟩
    have nr1:r1≠lg:=Ne.symm (zy ((kb0.trans ka1) _ _ hL0) hr1)
    have fr1:H r1=none:=(g2.trans (g.trans (kb0.trans ka1))).free hr1
    have kb1:=(kb0.trans ka1).trans (Same.new hr1 (.lst (zX e++[.int 1])))
    have er1:upd (upd Hb0 a1 (.lst [.int 1])) r1 (.lst (zX e++[.int 1])) r1=some (.lst (zX (e++[true]))):=by rw[zf];unfold zX;rw[ztG];rfl
    have kbs:Same Hb0 (upd (upd Hb0 a1 (.lst [.int 1])) r1 (.lst (zX e++[.int 1]))):=(Same.new ha1 (.lst [.int 1])).trans (Same.new hr1 (.lst (zX e++[.int 1])))
    generalize upd (upd Hb0 a1 (.lst [.int 1])) r1 (.lst (zX e++[.int 1]))=Hb1 at kb1 er1 kbs
    refine⟨by show 2<=sizeLine;decide,fun l2 hl2=>?_⟩
    have kc:=kb1.trans (Same.new hl2 (.lst [.ref r0,.ref r1]))
    have hLc:=kc _ _ hL0
    have er0':upd Hb1 l2 (.lst [.ref r0,.ref r1]) r0=some (.lst (zX (e++[false]))):=(Same.new hl2 _) _ _ (by
     have z:Same Hb0 Hb1:=kbs
     exact z _ _ er0)
    have er1':upd Hb1 l2 (.lst [.ref r0,.ref r1]) r1=some (.lst (zX (e++[true]))):=(Same.new hl2 _) _ _ er1
    refine⟨lg,l2,_,_,rfl,rfl,hLc,zf,by rw[zts];exact ztL (zN (by show us.length+2<=1000;omega)),?_⟩
    refine⟨us++[r0,r1],_,(g.trans kc).over hlg _,by rw[zf,ztG];rfl,?_,rfl⟩
    rw[zY hee,List.flatMap_append]
    exact Vs (zcl (zaG hu kc)) (.cons ⟨fr0,nr0,by rw[zB nr0];exact er0'⟩ (.cons ⟨fr1,nr1,by rw[zB nr1];exact er1'⟩ .nil))
  ·rintro σ H3 ⟨us,f4,g,hL0,hu,rfl⟩
   rw[zts,el,ztV] at hu
   exact⟨_,rfl,lg,us,_,_,_,g2.trans g,flg,hL0,wJ (fun _ _ r=>⟨r.1,r.2.2⟩) hu,rfl⟩
 ·rintro σ H2 ⟨l,es,f2,f3,f4,g2,fl,hl,he,rfl⟩
  exact⟨_,rfl,q l H2 es g2 fl hl he⟩
theorem zfi (T:Txt P w K mg a)(vO:zE P w K mg base zW k a.vM a.vN wz (uz (yP a.zA))):zE P w K mg base zW (k+1) a.Kw a.Ky Qw (Kl a.zA):=by
 refine T.zcE.F.ok zgk (fun vs H Q E h=>?_) (fun cdv A outer s H vs Q E hr h=>?_)
 ·obtain⟨b,os,rs,F,x,rfl,_⟩:=h
  rfl
 obtain⟨b,os,rs,F,x,rfl,hB,ax,lx,q⟩:=h
 refine⟨_,(zm (zG (Sh (yV xu (zF Ut rfl T.yJ yc (za (pv 1) zc)) (zF zH rfl T.yJ yc (za (Qj (pv 0) T.yH T.Yc vO hr) zc)) (zR _)) (Pn (zF (wV rfl) rfl T.Um Yk (za (vH (wO:=zq Ku) (js:=[]) rfl (by show uZ _ _ "sign" [];exact Ja (by decide +kernel)) rfl (zjr (pv 1)) (by show ∀j∈([]:List Nat),j<2;decide) (fun cl C s₂ H₂ fp=>(yV (zax (K:=K) rfl) (pv 0) (W8 (v:=.ref a.zag) rfl T.zly rfl) (by with_unfolding_all rfl)))) zc)))))),?_⟩
 have L:=uD a.zA
 obtain⟨dx,fs,zdT,hm⟩:=L.ins hB
 have lz:x.length<=sizeLine:=ztL (zN lx)
 refine⟨_,rfl,x,rfl,lz,_,rfl,b,dx,fs,rfl,zdT,hm _ (by decide +kernel),b,os,rs,F,rfl,hB,fun l1 H1 g1 fl1 hl1=>?_⟩
 refine⟨l1,_,rfl,.inl (zP.of hl1),?_⟩
 rw[zts]
 have e1:decide (V.int (x.length:Nat)=V.int (os.length:Nat))=decide (x.length=os.length):=decide_eq_decide.mpr ⟨fun e=>by injection e;omega,fun e=>by rw[e]⟩
 refine⟨rfl,_,rfl,?_⟩
 rw[e1]
 have q:=fun H' g=>q H' g
 unfold zhk at q
 refine z8 (fun c=>?_) (fun c=>?_)
 ·rw[c,Bool.true_and] at q
  refine⟨_,rfl,x,rfl,ax,?_⟩
  refine zle (x:=x) (fun v=>.bl (inV v ((["-", "0", "1"]:List Str).map V.str))) lz (fun v H' Q0 hv g hQ=>?_) (fun H2 l2 g2 hl2=>?_)
  ·unfold sgs at hv
   obtain⟨c,_,rfl⟩:=List.mem_map.mp hv
   exact⟨_,rfl,a.zag,_,rfl,.inr (T.zlz H'),rfl,rfl,hQ _ g⟩
  ·have em:(sgs x).map (fun v=>V.bl (inV v ((["-", "0", "1"]:List Str).map V.str)))=(x.cps.toList.map fun c=>decide (c=45\/c=48\/c=49)).map V.bl:=by
    unfold sgs
    rw[zt4,zt4]
    refine List.map_congr_left fun c _=>congrArg V.bl ?_
    exact zlf c
   rw[em]
   refine⟨l2,_,rfl,zP.of zf,?_⟩
   rw[List.all_map]
   exact q _ ((g1.trans g2).trans (Same.new hl2 _))
 ·have c':=Bool.eq_false_iff.mpr c
  rw[c',Bool.false_and] at q
  exact q _ g1
theorem JT (T:Txt P w K mg a)(zim:zE P w K mg base zW k a.Kw a.Ky Qw (Kl a.zA)):zE P w K mg base zW (k+1) a.Z5 a.Z6 uG (U4 a.zA):=by
 refine T.WX.F.ok JG (fun vs H Q E h=>?_) (fun cdv A outer s H vs Q E hr h=>?_)
 ·obtain⟨b,os,rs,F,c,rfl,_⟩:=h
  rfl
 obtain⟨b,os,rs,F,c,rfl,hB,hc,q⟩:=h
 refine⟨_,(zm (yr (vD (yE (zp zim hr T.zcE (za (pv 0) (za (pv 1) zc))) (fun _=>rfl))) (zm Ss) zU)),?_⟩
 have o8:=((uD a.zA).ord hB).le
 refine⟨_,rfl,_,rfl,b,os,rs,F,cbS c,rfl,hB,zab c,by rw[wk];omega,fun H1 g1=>?_⟩
 rw[zjI,decide_eq_true hc]
 exact⟨_,rfl,Zi (q _ g1)⟩
theorem zbk (T:Txt P w K mg a)(yC:zE P w K mg base zW k a.vK a.vL wK uL)(xR:zE P w K mg base zW k a.vB a.vC wu ux)(Uo:zE P w K mg base zW k a.X6 a.X7 Yr XR):zE P w K mg base zW (k+1) a.Vx a.Vy YF (U3 K):=by
 refine T.Q9.F.ok wZ (fun vs H Q E h=>?_) (fun cdv A outer s H vs Q E hr h=>?_)
 ·obtain⟨pl,rl,n,ps,r,rfl,_⟩:=h
  rfl
 obtain⟨pl,rl,n,ps,r,rfl,n8,hl,hm,hp,el,l8,q⟩:=h
 refine⟨_,(zj (zJ 3 wZ.nd (zp yC hr T.uJ (za (pv 2) zc)))
   (zj (xJ PassesOwn.never rfl (zju rfl T.zl5 (za (pv 0) (za (pv 1) zc))) (zcM rfl (Y7 (z9 (i:=4) wZ.nd rfl (Or.inl rfl)) (Y7 (z9 (i:=5) wZ.nd rfl (Or.inl rfl)) JX))) (zj (zJ 6 wZ.nd (zp xR hr T.Xg (za (pv 4) (za (pv 2) zc))))
   (zm (zJ 3 wZ.nd (NT (zO xu (pv 5) zx (zR _)) (zL tZ (pv 3) (pv 6)) (zp Uo hr T.QB (za (pv 3) (za (pv 6) zc))))))))
   (zm (zG (pv 3))))),?_⟩
 refine⟨_,rfl,n,rfl,n8,?_⟩
 refine⟨_,rfl,_,rfl,pl,rl,XD ps,zX r,rfl,hl,hm,?_⟩
 have e1:(XD ps).length=ps.length:=zts _
 have e2:(zX r).length=r.length:=zts _
 refine zk5 (xs:=XD ps) (ys:=zX r) (by omega) (fun i σ H'=>Same H H'/\∃(M:Nat) (f4 f5 f6:Option V),zV n M (hav ((ps.zip r).take i))/\σ=[some (.ref pl),some (.ref rl),some (.int (n:Nat)),some (.int (M:Nat)),f4,f5,f6]) ⟨Same.refl _,_,_,_,_,Ux n,rfl⟩ ?_ ?_ ?_
 ·rintro i σ H' _ ⟨g,_⟩
  exact⟨g.seq hl,g.seq hm⟩
 ·rintro i x y σ H' t hx hy ⟨g,M,f4,f5,f6,tm,rfl⟩ ht
  unfold XD at hx
  unfold zX at hy
  rw[ztu] at hx hy
  cases hj:ps[i]? with
  | none=>rw[hj] at hx;cases hx
  | some p =>
   rw[hj] at hx
   cases hx
   cases hk:r[i]? with
   | none=>rw[hk] at hy;cases hy
   | some v =>
    rw[hk] at hy
    cases hy
    have hz:(ps.zip r)[i]?=some (p,v):=List.getElem?_zip_eq_some.mpr ⟨hj,hk⟩
    have pn:=hp p (ztx hj)
    have nx:hav ((ps.zip r).take (i+1))=fun b=>hav ((ps.zip r).take i) b&&(b.testBit p==v):=funext fun b=>by
     rw[zY hz]
     unfold hav
     rw[List.all_append]
     simp
    refine⟨t,_,rfl,wG.of zf,rfl,_,_,rfl,_,_,rfl,rfl,?_⟩
    refine⟨_,rfl,_,rfl,p,n,rfl,pn,n8,fun W tw=>?_⟩
    refine⟨_,rfl,rfl,_,rfl,?_⟩
    cases v with
    | true =>
     refine Xi ⟨_,rfl,_,rfl,M,W,rfl,rfl,g.trans (Same.new ht _),_,_,_,_,?_,rfl⟩
     rw[nx]
     have e:(fun b=>hav ((ps.zip r).take i) b&&(b.testBit p==true))=fun b=>hav ((ps.zip r).take i) b&&b.testBit p:=funext fun b=>by simp
     rw[e]
     exact zk7 tm tw
    | false =>
     refine Zi ⟨_,rfl,_,rfl,M,W,n,_,_,rfl,tm,tw,fun R tr=>⟨g.trans (Same.new ht _),R,_,_,_,?_,rfl⟩⟩
     rw[nx]
     have e:(fun b=>hav ((ps.zip r).take i) b&&(b.testBit p==false))=fun b=>hav ((ps.zip r).take i) b&&!b.testBit p:=funext fun b=>by cases b.testBit p<;>rfl
     rw[e]
     exact tr
 ·rintro σ H' ⟨g,M,f4,f5,f6,tm,rfl⟩
  have el:(ps.zip r).length=(XD ps).length:=by rw[List.length_zip,e1];omega
  rw[<-el,ztV] at tm
  exact⟨_,rfl,q M H' g tm⟩
theorem zgw (T:Txt P w K mg a)(zbO:zE P w K mg base zW k a.Vx a.Vy YF (U3 K)):zE P w K mg base zW (k+1) a.X8 a.Wa Yt Wn:=by
 refine T.Wb.F.ok za6 (fun vs H Q E h=>?_) (fun cdv A outer s H vs Q E hr h=>?_)
 ·obtain⟨c,rfl,_⟩:=h
  rfl
 obtain⟨c,rfl,c8,q⟩:=h
 refine⟨_,(zj (zf2 (i:=1) za6.nd rfl (Or.inl rfl) (.inl rfl) (wO:=zq Uc) (js:=[]) rfl (by show zck (zq Uc) _ "place" "sign" [];exact⟨⟨rfl,by decide +kernel,by decide +kernel,by decide +kernel,by decide +kernel⟩,by decide +kernel,by decide +kernel,by decide +kernel⟩) rfl (zeC rfl T.RZ (za (pv 0) zc)) (by show ∀j∈([]:List Nat),j<2;decide) (fun cl C s₂ H₂ fp=>(zO V0 (pv 1) zZ (zR _))) (fun cl C s₂ H₂ fp=>(pv 0)) rfl)
   (zm (zG (zp zbO hr T.Q9 (za (pv 1) (za (vH (wO:=zq Uc) (js:=[0]) rfl (by show uZ _ _ "place" ["cube"];exact Ja (by decide +kernel)) rfl (yh (pv 1)) (by show ∀j∈([0]:List Nat),j<2;decide) (fun cl C s₂ H₂ fp=>(xT zh0 rfl T.zfa zau (za (yq zcR (pv 1) (pv 0) (fun _ _=>rfl)) zc)))) (za (zF Ut rfl T.yJ yc (za (pv 0) zc)) zc))))))),?_⟩
 have sz:(cbS c).cps.size<=sizeLine:=by rw[Wm];exact ztL (zN (by omega))
 refine⟨_,rfl,cbS c,rfl,zab c,?_⟩
 refine zjH (fun i ys H'=>Same H H'/\ys=XD ((NP c).filter fun j=>decide (j<i))/\i<=c.length) ⟨Same.refl _,by rw[List.filter_eq_nil_iff.mpr fun j _=>by simp];rfl,ztP _⟩ sz ?_ ?_ ?_
 ·rintro i ys H' ⟨_,rfl,hi⟩
  rw[Xb]
  exact zcs c hi
 ·rintro i cc ys H' p Q1 Q2 hcc ⟨g,rfl,_⟩ hp h1 h2
  obtain⟨s0,hs,rfl⟩:=zf3 hcc
  have hi:i<c.length:=(ztv.mp hs).1
  have g2:=g.trans (Same.new hp (.tup [.int (i:Nat),.str ⟨#[T6 s0]⟩]))
  have step:=zaL (q:=c) hs
  refine⟨_,rfl,rfl,_,rfl,?_⟩
  cases s0 with
  | none =>
   refine zfX (show V.str ⟨#[45]⟩=V.str "-" by decide +kernel) (h2 _ ⟨g2,?_,hi⟩)
   rw[step]
   show _=XD (_++[])
   rw[List.append_nil]
  | some v =>
   have ne:V.str ⟨#[T6 (some v)]⟩≠V.str "-" := by cases v<;>decide +kernel
   show if (!decide (V.str ⟨#[T6 (some v)]⟩=V.str "-"))=true then _ else _
   rw[decide_eq_false ne]
   refine Xi ⟨_,rfl,h1 _ _ ⟨g2,?_,hi⟩⟩
   rw[step]
   unfold XD
   rw[ztG]
   rfl
 ·rintro ys H1 pl ⟨g,rfl,_⟩ hpl
  have ef:((NP c).filter fun j=>decide (j<(cbS c).cps.size))=NP c:=List.filter_eq_self.mpr fun j hj=>decide_eq_true (by rw[Wm];exact zdo j hj)
  rw[ef]
  have g1:=g.trans (Same.new hpl (.lst (XD (NP c))))
  have e1:upd H1 pl (.lst (XD (NP c))) pl=some _:=zf
  generalize upd H1 pl _=H2 at g1 e1 ⊢
  have p8:(NP c).length<=8:=ztO (zt1 _ _) (by rw[ztK];exact c8)
  refine⟨_,rfl,_,rfl,pl,rfl,⟨_,zP.of e1⟩,?_⟩
  refine Rf (xs:=XD (NP c)) (fun i ys H'=>Same H2 H'/\ys=zX ((vlC c).take i)) ⟨Same.refl _,rfl⟩ (by rw[Xb];exact ztL (zN (by omega))) ?_ ?_ ?_
  ·rintro i ys H' hi ⟨g,rfl⟩
   refine⟨zP.of (g _ _ e1),?_⟩
   unfold zX
   rw[zts,ztQ]
   omega
  ·rintro i x ys H' Q0 hx ⟨g,rfl⟩ hQ
   obtain⟨j,hj,rfl⟩:=zf0 hx
   have mj:=ztx hj
   obtain⟨v,hv⟩:=zeF mj
   refine⟨_,rfl,_,rfl,cbS c,_,_,rfl,rfl,by rw[wk];exact ztL (zN (by omega)),vG (zdn hv),v,?_,?_⟩
   ·show [V.str ⟨#[T6 (some v)]⟩]=_
    cases v<;>decide +kernel
   ·refine hQ _ _ ⟨g,?_⟩
    have hvl:(vlC c)[i]?=some v:=by
     unfold vlC
     rw[ztu,hj]
     show some ((c.getD j none).getD false)=_
     rw[ztF,hv]
     rfl
    rw[zY hvl]
    unfold zX
    rw[ztG]
    rfl
  ·rintro ys H3 vl ⟨g,rfl⟩ hvl
   have lv:(vlC c).length=(NP c).length:=zts _
   rw[Xb,<-lv,ztV]
   have g3:=g.trans (Same.new hvl (.lst (zX (vlC c))))
   refine⟨_,rfl,cbS c,rfl,by rw[wk];exact ztL (zN (by omega)),?_⟩
   rw[wk]
   refine⟨pl,vl,c.length,NP c,vlC c,rfl,c8,zP.of (g3 _ _ e1),zP.of zf,zdo,lv.symm,p8,fun R H' g' tR=>?_⟩
   have tR:zV c.length R (yR c):=fun b=>by rw[tR b,zmU]
   exact q R H' ((g1.trans g3).trans g') tR
theorem zdU (T:Txt P w K mg a)(xH:zE P w K mg base zW k a.yL a.yM yx (Yp a.zA))(W6:zE P w K mg base zW k a.Z5 a.Z6 uG (U4 a.zA))
  (Zw:zE P w K mg base zW k a.X8 a.Wa Yt (Wn))(vU:zE P w K mg base zW k a.xZ a.wg yZ (XQ a.zA))(Uo:zE P w K mg base zW k a.X6 a.X7 Yr (XR)):zE P w K mg base zW (k+1) a.RL a.RM Vl (zaM a.zA):=by
 refine T.RV.F.ok zdD (fun vs H Q E h=>?_) (fun cdv A outer s H vs Q E hr h=>?_)
 ·obtain⟨b,os,rs,F,k0,c,rfl,_⟩:=h
  rfl
 obtain⟨b,os,rs,F,k0,c,rfl,hB,hk,hc,q⟩:=h
 refine⟨_,(zj (yu (u9 (pv 0) T.yH T.wQ xH hr (za (pv 1) zc)))
   (zj (yu (zp W6 hr T.WX (za (pv 0) (za (pv 2) zc))))
   (zm (zG (yV xu (zp Uo hr T.QB (za (zp Zw hr T.Wb (za (pv 2) zc)) (za (u9 (pv 0) T.yH T.Zf vU hr (za (pv 1) zc)) zc))) zx (zR _)))))),?_⟩
 have L:=uD a.zA
 have o8:=(L.ord hB).le
 obtain⟨dx,_,_,_,_,_,_,_,h0⟩:=id hB
 refine⟨_,rfl,b,dx,_,rfl,h0.hb,rfl,_,rfl,b,os,rs,F,k0,rfl,hB,hk,?_⟩
 refine⟨_,rfl,_,rfl,b,os,rs,F,c,rfl,hB,hc,fun H1 g1=>?_⟩
 refine⟨_,rfl,c,rfl,by omega,fun R H2 g2 tR=>?_⟩
 rw[hc] at tR
 have hB2:=L.same hB (g1.trans g2)
 refine⟨_,rfl,b,dx,_,rfl,(g1.trans g2) _ _ h0.hb,rfl,_,rfl,b,os,rs,F,k0,rfl,hB2,hk,fun t tt=>?_⟩
 refine⟨R,t,os.length,_,_,rfl,tR,tt,fun W tW=>?_⟩
 have e:decide (V.int (W:Nat)=V.int 0)=inB os.length (tB rs k0) c:=by
  refine Eq.trans ?_ (zf6 tW)
  exact decide_eq_decide.mpr ⟨fun e=>by injection e;omega,fun e=>by rw[e];rfl⟩
 refine⟨rfl,?_⟩
 rw[e]
 exact q _ (g1.trans g2)
theorem zgx (T:Txt P w K mg a):zE P w K mg base zW (k+1) a.Qy a.Qz Ud Qs:=by
 refine T.zcF.F.ok zgl (fun vs H Q E h=>?_) (fun cdv A outer s H vs Q E hr h=>?_)
 ·obtain⟨c,rfl,_⟩:=h
  rfl
 obtain⟨c,rfl,c8,q⟩:=h
 refine⟨_,(zm (zG (zk6 (wO:=zq Qx) (js:=[0]) rfl (by show zck (zq Qx) _ "place" "sign" ["cube"];exact⟨⟨rfl,by decide +kernel,by decide +kernel,by decide +kernel,by decide +kernel⟩,by decide +kernel,by decide +kernel,by decide +kernel⟩) rfl (zeC rfl T.RZ (za (pv 0) zc)) (by show ∀j∈([0]:List Nat),j<1;decide) (fun cl C s₂ H₂ fp=>(zO V0 (pv 1) zZ (zR _))) (fun cl C s₂ H₂ fp=>(zL Zg (zL Zg (u6 zdm (pv 2) Xw (Zz (pv 0))) zZ) (u6 zdm (pv 2) (Zz (zL wH (pv 0) zx)) Xw)))))),?_⟩
 have sz:(cbS c).cps.size<=sizeLine:=by rw[Wm];exact ztL (zN (by omega))
 have lz:(cbS c).length<=sizeLine:=sz
 refine⟨_,rfl,cbS c,rfl,zab c,?_⟩
 refine zjH (fun i ys H'=>Same H H'/\ys=(((NP c).filter fun j=>decide (j<i)).map fun i=>c.set i none).map (fun q=>V.str (cbS q))/\i<=c.length) ⟨Same.refl _,by rw[List.filter_eq_nil_iff.mpr fun j _=>by simp];rfl,ztP _⟩ sz ?_ ?_ ?_
 ·rintro i ys H' ⟨_,rfl,hi⟩
  rw[zts,zts]
  exact zcs c hi
 ·rintro i cc ys H' p Q1 Q2 hcc ⟨g,rfl,_⟩ hp h1 h2
  obtain⟨s0,hs,rfl⟩:=zf3 hcc
  have hi:i<c.length:=(ztv.mp hs).1
  have g2:=g.trans (Same.new hp (.tup [.int (i:Nat),.str ⟨#[T6 s0]⟩]))
  have step:=zaL (q:=c) hs
  refine⟨_,rfl,rfl,_,rfl,?_⟩
  cases s0 with
  | none =>
   refine zfX (show V.str ⟨#[45]⟩=V.str "-" by decide +kernel) (h2 _ ⟨g2,?_,hi⟩)
   rw[step]
   show _=((_++[]).map _).map _
   rw[List.append_nil]
  | some v =>
   have ne:V.str ⟨#[T6 (some v)]⟩≠V.str "-" := by cases v<;>decide +kernel
   show if (!decide (V.str ⟨#[T6 (some v)]⟩=V.str "-"))=true then _ else _
   rw[decide_eq_false ne]
   refine Xi ⟨_,rfl,_,rfl,_,rfl,cbS c,rfl,lz,?_⟩
   rw[zhi (ztL hi)]
   have l1:(cbS (c.take i)).length+(Str.ofString "-").length<=sizeLine:=by
    rw[wk,ztQ]
    exact ztL (zN (by show min i c.length+1<=1000;omega))
   refine⟨_,_,rfl,rfl,l1,?_⟩
   rw[dash,Mu]
   refine⟨_,rfl,_,rfl,_,_,rfl,rfl,_,rfl,cbS c,rfl,lz,?_⟩
   have er:(i:Int)+1=((i+1:Nat):Int):=rfl
   rw[er,zhj (by omega:i+1<=c.length)]
   refine⟨_,_,rfl,rfl,?_,?_⟩
   ·rw[wk,wk,ztA,ztQ,List.length_drop]
    exact ztL (zN (by show min i c.length+1+(c.length-(i+1))<=1000;omega))
   ·rw[Mu]
    refine h1 _ _ ⟨g2,?_,hi⟩
    rw[step,ztG,ztG]
    have es:c.set i none=c.take i++[none]++c.drop (i+1):=by
     rw[List.set_eq_take_append_cons_drop,if_pos hi,List.append_assoc]
     rfl
    show _=_++[V.str (cbS (c.set i none))]
    rw[es]
 ·rintro ys H1 pl ⟨g,rfl,_⟩ hpl
  have ef:((NP c).filter fun j=>decide (j<(cbS c).cps.size))=NP c:=List.filter_eq_self.mpr fun j hj=>decide_eq_true (by rw[Wm];exact zdo j hj)
  rw[ef]
  exact q pl _ (g.trans (Same.new hpl _)) (g.free hpl) zf
theorem zfj (T:Txt P w K mg a)(Jv:zE P w K mg base zW k a.RL a.RM Vl (zaM a.zA))(zin:zE P w K mg base zW k a.Qy a.Qz Ud (Qs)):zE P w K mg base zW (k+1) a.Np a.Nq U9 (Km a.zA):=by
 refine T.zbe.F.ok ze0 (fun vs H Q E h=>?_) (fun cdv A outer s H vs Q E hr h=>?_)
 ·obtain⟨b,os,rs,F,k0,c,rfl,_⟩:=h
  rfl
 obtain⟨b,os,rs,F,k0,c,rfl,hB,hk,hc,q⟩:=h
 refine⟨_,(zm (zG (Sh (zp Jv hr T.RV (za (pv 0) (za (pv 1) (za (pv 2) zc)))) (Pn (ziB (zF (zjE rfl) rfl T.zof zmS (za (vH (wO:=zq Nh) (js:=[0,1]) rfl (by show uZ _ _ "wider" ["book", "room"];exact Ja (by decide +kernel)) rfl (yh (zp zin hr T.zcF (za (pv 2) zc))) (by show ∀j∈([0,1]:List Nat),j<3;decide) (fun cl C s₂ H₂ fp=>(zp Jv hr T.RV (za (pv 1) (za (pv 2) (za (pv 0) zc)))))) zc))))))),?_⟩
 have L:=uD a.zA
 have o8:=(L.ord hB).le
 refine⟨_,rfl,_,rfl,_,rfl,b,os,rs,F,k0,c,rfl,hB,hk,hc,fun H1 g1=>⟨_,rfl,?_⟩⟩
 unfold yj at q
 cases e:inB os.length (tB rs k0) c with
 | false =>
  rw[e,Bool.false_and] at q
  exact Zi (q _ g1)
 | true =>
  rw[e,Bool.true_and] at q
  refine Xi ⟨_,rfl,c,rfl,by omega,fun l H2 g2 fl hl=>?_⟩
  have hB2:=L.same hB (g1.trans g2)
  have wl:(wid c).length<=8:=by
   unfold wid
   rw[zts]
   exact ztO (zt1 _ _) (by rw[ztK];omega)
  refine⟨l,rfl,⟨_,zP.of hl⟩,?_⟩
  refine Rf (xs:=(wid c).map fun q=>V.str (cbS q)) (fun i ys H'=>Same H2 H'/\ys=(((wid c).take i).map (inB os.length (tB rs k0))).map V.bl) ⟨Same.refl _,rfl⟩ (by rw[zts];exact ztL (zN (by omega))) ?_ ?_ ?_
  ·rintro i ys H' hi ⟨g,rfl⟩
   refine⟨zP.of (g _ _ hl),?_⟩
   rw[zts,zts,ztQ]
   omega
  ·rintro i x ys H' Q0 hx ⟨g,rfl⟩ hQ
   rw[ztu] at hx
   cases hw:(wid c)[i]? with
   | none=>rw[hw] at hx;cases hx
   | some c2 =>
    rw[hw] at hx
    cases hx
    have l2:c2.length=os.length:=by
     obtain⟨j,_,rfl⟩:=List.mem_map.mp (ztx hw)
     rw[List.length_set];exact hc
    refine⟨_,rfl,_,rfl,_,rfl,b,os,rs,F,k0,c2,rfl,L.same hB2 g,hk,l2,fun H3 g3=>hQ _ _ ⟨g.trans g3,?_⟩⟩
    rw[zY hw,ztG,ztG]
    rfl
  ·rintro ys H3 p ⟨g,rfl⟩ hp
   rw[zts,ztV]
   refine⟨p,_,rfl,zP.of zf,?_⟩
   rw[List.any_map]
   exact⟨_,rfl,q _ ((g1.trans g2).trans (g.trans (Same.new hp _)))⟩
theorem zbl {d:Nat}(T:Txt P w K mg a)(yC:zE P w K mg base zW k a.vK a.vL wK uL)(yX:zE P w K mg base zW k a.Yu a.Yv Zu Wj)
  (tX:zE P w K mg base zW k a.tK a.tL vV (V8 d)):zE P w K mg base zW (k+1) a.tK a.tL vV (V8 (d+1)):=by
 refine T.tU.F.ok vg (fun vs H Q E h=>?_) (fun cdv A outer s H vs Q E hr h=>?_)
 ·obtain⟨N,p,n,f,rfl,_⟩:=h
  rfl
 obtain⟨N,p,n,f,rfl,n8,hp,hd,tf,ff,q⟩:=h
 refine⟨_,(zj (yr (zO xu (pv 0) zx (zR _)) (zm (zG (yK zc))) zU)
   (zj (yr (zO xu (pv 0) (zp yC hr T.uJ (za (pv 2) zc)) (zR _)) (zm (zG (yK (za (zL zld zZ (zL Lq (pv 2) (pv 1))) zc)))) zU)
   (zj (zJ 3 vg.nd (zp yX hr T.Yy (za (pv 0) (za (pv 1) (za zx (za (pv 2) zc))))))
   (zj (zJ 4 vg.nd (zp yX hr T.Yy (za (pv 0) (za (pv 1) (za zx (za (pv 2) zc))))))
   (zj (Lp (i:=5) vg.nd rfl (Or.inr rfl) (zp tX hr T.tU (za (zL tZ (pv 3) (pv 4)) (za (zL wH (pv 1) zx) (za (pv 2) zc)))))
   (zj (zaq (i:=6) vg.nd rfl (Or.inl rfl) (.inl rfl) (wO:=zq wL) (js:=[5]) rfl (by show uZ _ _ "cube" ["either"];exact Ja (by decide +kernel)) rfl (yh (zp tX hr T.tU (za (pv 3) (za (zL wH (pv 1) zx) (za (pv 2) zc))))) (by show ∀j∈([5]:List Nat),j<8;decide) (fun cl C s₂ H₂ fp pins s' σ' H' Q I h=>wpAny_tests_one ((zO (zcd (K:=K) rfl) (pv 0) (pv 1) (by with_unfolding_all rfl)) pins s' σ' H' Q I h)) (fun cl C s₂ H₂ fp=>(pv 0)) rfl)
   (zj (zaq (i:=7) vg.nd rfl (Or.inl rfl) (.inl rfl) (wO:=zq wL) (js:=[5]) rfl (by show uZ _ _ "cube" ["either"];exact Ja (by decide +kernel)) rfl (yh (zp tX hr T.tU (za (pv 4) (za (zL wH (pv 1) zx) (za (pv 2) zc))))) (by show ∀j∈([5]:List Nat),j<8;decide) (fun cl C s₂ H₂ fp pins s' σ' H' Q I h=>wpAny_tests_one ((zO (zcd (K:=K) rfl) (pv 0) (pv 1) (by with_unfolding_all rfl)) pins s' σ' H' Q I h)) (fun cl C s₂ H₂ fp=>(pv 0)) rfl)
   (zm (zG (zL U0 (zL U0 (vH (wO:=zq wL) (js:=[]) rfl (by show uZ _ _ "cube" [];exact Ja (by decide +kernel)) rfl (yh (pv 5)) (by show ∀j∈([]:List Nat),j<8;decide) (fun cl C s₂ H₂ fp=>(zL Zg zZ (pv 0)))) (vH (wO:=zq wL) (js:=[]) rfl (by show uZ _ _ "cube" [];exact Ja (by decide +kernel)) rfl (yh (pv 6)) (by show ∀j∈([]:List Nat),j<8;decide) (fun cl C s₂ H₂ fp=>(zL Zg zZ (pv 0))))) (vH (wO:=zq wL) (js:=[]) rfl (by show uZ _ _ "cube" [];exact Ja (by decide +kernel)) rfl (yh (pv 7)) (by show ∀j∈([]:List Nat),j<8;decide) (fun cl C s₂ H₂ fp=>(zL Zg zZ (pv 0)))))))))))))),?_⟩
 have ei:∀{i j:Nat},V.int (i:Int)=V.int (j:Int)->i=j:=fun h=>by injection h with h;exact Int.ofNat.inj h
 refine⟨_,rfl,rfl,_,rfl,z8 (fun e=>?_) (fun e1=>?_)⟩
 ·have e0:N=0:=ei (of_decide_eq_true e)
  subst e0
  have no:∀b,b<2^n->f b=false:=fun b hb=>by rw[<-yF.ZM tf hb];exact Nat.zero_testBit _
  exact⟨by show 0<=sizeLine;decide,fun l hl=>q l [] _ (Same.new hl _) hl zf (T7.no hp no)⟩
 refine⟨_,rfl,_,rfl,n,rfl,n8,rfl,_,rfl,z8 (fun e=>?_) (fun e2=>?_)⟩
 ·have e0:N=2^2^n-1:=ei (of_decide_eq_true e)
  have al:∀b,b<2^n->f b=true:=fun b hb=>by rw[<-yF.ZM tf hb,e0];exact yF.ZM (Ux n) hb
  refine⟨_,rfl,_,rfl,_,_,rfl,rfl,n-p,rfl,?_,by omega,by show 1<=sizeLine;decide,fun l hl=>q l [_] _ (Same.new hl _) hl zf (T7.yes hp al)⟩
  show V.int ((n:Int)-(p:Int))=V.int ((n-p:Nat):Int)
  rw[Int.ofNat_sub hp]
 have n1:¬∀b,b<2^n->f b=true:=fun z=>e2 (decide_eq_true (congrArg (fun m:Nat=>V.int (m:Int)) (yF.Vc tf (Ux n) z)))
 have n0:¬∀b,b<2^n->f b=false:=fun z=>e1 (decide_eq_true (congrArg (fun m:Nat=>V.int (m:Int)) (yF.Vc tf (ZC n) z)))
 have hpn:p<n:=by
  refine Nat.lt_of_le_of_ne hp fun z=>?_
  subst z
  have cf:=yF.YD ff
  cases h1:f 0 with
  | false=>exact n0 fun b hb=>by rw[cf b hb,h1]
  | true=>exact n1 fun b hb=>by rw[cf b hb,h1]
 refine⟨_,rfl,_,rfl,_,rfl,N,p,n,false,f,rfl,hpn,n8,tf,fun M0 t0=>?_⟩
 refine⟨_,rfl,_,rfl,_,rfl,N,p,n,true,f,rfl,hpn,n8,tf,fun M1 t1=>?_⟩
 have f0:=Qp (v:=false) hpn ff
 have f1:=Qp (v:=true) hpn ff
 refine⟨_,rfl,_,rfl,M0,M1,rfl,rfl,_,rfl,_,_,rfl,rfl,_,rfl,M0&&&M1,p+1,n,_,rfl,n8,hpn,by omega,tY t0 t1,fun i hi=>zjP (f0 i hi) (f1 i hi),fun le E1 H1 g1 hle h1 pE=>?_⟩
 refine⟨_,rfl,_,rfl,_,_,rfl,rfl,_,rfl,M0,p+1,n,_,rfl,n8,hpn,by omega,t0,f0,fun lz Z H2 g2 hlz h2 pZ=>?_⟩
 have few:∀{g:Nat->Bool} {L:List Cb},T7 n (p+1) g L->L.length<=sizeLine:=fun h=>wY (by have:=h.few n8;omega)
 refine⟨lz,rfl,⟨_,zP.of h2⟩,?_⟩
 refine zaQ cbV (fun q=>!E1.contains q) (zP.of h2) (few pZ) (fun x H' Q0 h=>⟨_,rfl,h⟩) (fun x H' Q0 hx g hQ=>?_) (fun H3 lz' g3 hlz'=>?_)
 ·refine⟨_,rfl,_,rfl,le,_,rfl,.inl (zP.of ((g2.trans g) _ _ h1)),rfl,zho E1,_,rfl,?_⟩
  have y:=hQ _ g
  rw[<-zjO] at y
  exact y
 generalize eZ:(Z.filter fun q=>!E1.contains q)=Z'
 have gz:=g3.trans (Same.new hlz' (.lst (Z'.map cbV)))
 have hz':upd H3 lz' (.lst (Z'.map cbV)) lz'=some _:=zf
 generalize upd H3 lz' _=H4 at gz hz' ⊢
 refine⟨_,rfl,_,rfl,_,_,rfl,rfl,_,rfl,M1,p+1,n,_,rfl,n8,hpn,by omega,t1,f1,fun lo O H5 g5 hlo h5 pO=>?_⟩
 have h15:=(g2.trans (gz.trans g5)) _ _ h1
 refine⟨lo,rfl,⟨_,zP.of h5⟩,?_⟩
 refine zaQ cbV (fun q=>!E1.contains q) (zP.of h5) (few pO) (fun x H' Q0 h=>⟨_,rfl,h⟩) (fun x H' Q0 hx g hQ=>?_) (fun H6 lo' g6 hlo'=>?_)
 ·refine⟨_,rfl,_,rfl,le,_,rfl,.inl (zP.of (g _ _ h15)),rfl,zho E1,_,rfl,?_⟩
  have y:=hQ _ g
  rw[<-zjO] at y
  exact y
 generalize eO:(O.filter fun q=>!E1.contains q)=O'
 have go:=g6.trans (Same.new hlo' (.lst (O'.map cbV)))
 have ho':upd H6 lo' (.lst (O'.map cbV)) lo'=some _:=zf
 generalize upd H6 lo' _=H7 at go ho' ⊢
 have hz7:=(g5.trans go) _ _ hz'
 have hE7:=go _ _ h15
 have gA:Same H H7:=g1.trans (g2.trans (gz.trans (g5.trans go)))
 have PF:=T7.step hpn ff n1 pE pZ pO
 rw[eZ,eO] at PF
 have lE:=few pE
 have LL:=PF.few n8
 rw[ztA,ztA,zts,zts,zts] at LL
 have sz:∀{q:Cb} {y:Str} {L:List Cb} {g:Nat->Bool},T7 n (p+1) g L->q∈L->y.length<=1->y.length+(cbS q).length<=sizeLine:=fun {q y L g} h m hy=>by
  have:=((h.mem q).mp m).1
  rw[wk]
  exact wY (by omega)
 have mZ:∀q∈Z',q∈Z:=fun q h=>by rw[<-eZ] at h;exact(List.mem_filter.mp h).1
 have mO:∀q∈O',q∈O:=fun q h=>by rw[<-eO] at h;exact(List.mem_filter.mp h).1
 refine⟨_,rfl,le,rfl,⟨_,zP.of hE7⟩,?_⟩
 refine Qu cbV (fun q=>cbV (none::q)) (zP.of hE7) (wY (by omega)) (fun x H' Q0 hx g hQ=>⟨_,rfl,_,_,rfl,rfl,sz pE hx (by decide +kernel),by rw[zdu none x dash];exact hQ _ (Same.refl _)⟩) (fun H8 l8 g8 hl8=>?_)
 have k8:=Same.new hl8 (.lst (E1.map fun q=>cbV (none::q)))
 have hz8:=(g8.trans k8) _ _ hz7
 refine⟨_,rfl,lz',rfl,⟨_,zP.of hz8⟩,?_⟩
 refine Qu cbV (fun q=>cbV (some false::q)) (zP.of hz8) (wY (by omega)) (fun x H' Q0 hx g hQ=>⟨_,rfl,_,_,rfl,rfl,sz pZ (mZ x hx) (by decide +kernel),by rw[zdu (some false) x nought];exact hQ _ (Same.refl _)⟩) (fun H9 l9 g9 hl9=>?_)
 have k9:=Same.new hl9 (.lst (Z'.map fun q=>cbV (some false::q)))
 refine⟨l8,l9,_,_,rfl,rfl,zP.of ((g9.trans k9) _ _ zf),zP.of zf,?_,fun la hla=>?_⟩
 ·rw[zts,zts]
  exact wY (by omega)
 have ka:=Same.new hla (.lst ((E1.map fun q=>cbV (none::q))++Z'.map fun q=>cbV (some false::q)))
 have ho8:=(((g8.trans k8).trans (g9.trans k9)).trans ka) _ _ ho'
 refine⟨_,rfl,lo',rfl,⟨_,zP.of ho8⟩,?_⟩
 refine Qu cbV (fun q=>cbV (some true::q)) (zP.of ho8) (wY (by omega)) (fun x H' Q0 hx g hQ=>⟨_,rfl,_,_,rfl,rfl,sz pO (mO x hx) (by decide +kernel),by rw[zdu (some true) x zpS];exact hQ _ (Same.refl _)⟩) (fun Hb lb gb hlb=>?_)
 have kb:=Same.new hlb (.lst (O'.map fun q=>cbV (some true::q)))
 refine⟨la,lb,_,_,rfl,rfl,zP.of ((gb.trans kb) _ _ zf),zP.of zf,?_,fun lc hlc=>?_⟩
 ·rw[ztA,zts,zts,zts]
  exact wY (by omega)
 have gg:=gA.trans ((((g8.trans k8).trans (g9.trans k9)).trans ka).trans (gb.trans kb))
 refine q lc _ _ (gg.trans (Same.new hlc _)) (gg.free hlc) ?_ PF
 rw[zf,ztG,ztG,zt4,zt4,zt4]
 rfl
theorem R4 (T:Txt P w K mg a)(yC:zE P w K mg base zW k a.vK a.vL wK uL)(yX:zE P w K mg base zW k a.Yu a.Yv Zu Wj) :
  ∀d:Nat,zE P w K mg base zW (k+d) a.tK a.tL vV (V8 d)
 | 0=>by
  refine⟨fun vs H Q E h=>?_,fun A outer s H args us vs Q E _ _ _ _ h=>?_⟩
  ·obtain⟨N,p,n,f,rfl,_⟩:=h
   rfl
  ·obtain⟨N,p,n,f,_,_,h1,h2,_⟩:=h
   omega
 | d+1=>zbl T (yC.mono (zt3 _ _)) (yX.mono (zt3 _ _)) (R4 T yC yX d)
theorem zio (T:Txt P w K mg a)(xH:zE P w K mg base zW k a.yL a.yM yx (Yp a.zA))(vU:zE P w K mg base zW k a.xZ a.wg yZ (XQ a.zA))(vO:zE P w K mg base zW k a.vM a.vN wz (uz (yP a.zA)))(tX:zE P w K mg base zW k a.tK a.tL vV (V8 9)):zE P w K mg base zW (k+1) a.za9 a.zba M6 (zaR a.zA):=by
 refine T.ze8.F.ok zii (fun vs H Q E h=>?_) (fun cdv A outer s H vs Q E hr h=>?_)
 ·obtain⟨b,os,rs,F,k0,rfl,_⟩:=h
  rfl
 obtain⟨b,os,rs,F,k0,rfl,hB,hk,q⟩:=h
 refine⟨_,(zj (yu (u9 (pv 0) T.yH T.wQ xH hr (za (pv 1) zc)))
   (zm (zG (zp tX hr T.tU (za (u9 (pv 0) T.yH T.Zf vU hr (za (pv 1) zc)) (za zx (za (zF zH rfl T.yJ yc (za (Qj (pv 0) T.yH T.Yc vO hr) zc)) zc))))))),?_⟩
 have L:=uD a.zA
 have o8:=(L.ord hB).le
 obtain⟨dx,ml,rl,tl,nd,rv,tbs,zqe,h⟩:=id hB
 refine⟨_,rfl,b,dx,_,rfl,h.hb,rfl,_,rfl,b,os,rs,F,k0,rfl,hB,hk,?_⟩
 refine⟨_,rfl,b,dx,_,rfl,h.hb,rfl,_,rfl,b,os,rs,F,k0,rfl,hB,hk,fun N tN=>?_⟩
 obtain⟨dx2,fs,zdT,hm⟩:=L.ins hB
 refine⟨_,rfl,b,dx2,fs,rfl,zdT,hm _ (by decide +kernel),b,os,rs,F,rfl,hB,fun l1 H1 g1 fl1 hl1=>?_⟩
 refine⟨l1,_,rfl,.inl (zP.of hl1),?_⟩
 rw[zts]
 exact⟨N,0,os.length,_,rfl,o8,ztP _,by omega,tN,fun i hi=>absurd hi (Nat.not_lt_zero _),fun l qs H2 g2 hl h2 P=>q l qs H2 (g1.trans g2) (g1.free hl) h2 P⟩
theorem zbm (T:Txt P w K mg a)(Uo:zE P w K mg base zW k a.X6 a.X7 Yr XR):zE P w K mg base zW (k+1) a.YT a.YW tG (zad K):=by
 refine T.Y0.F.ok vh (fun vs H Q E h=>?_) (fun cdv A outer s H vs Q E hr h=>?_)
 ·obtain⟨l,n,Ns,fs,rfl,_⟩:=h
  rfl
 obtain⟨l,n,Ns,fs,rfl,hl,hp,q⟩:=h
 refine⟨_,(zj (zJ 1 vh.nd zx)
   (zj (zJ 2 vh.nd zx)
   (zj (xJ PassesOwn.never rfl (yh (pv 0)) (z9 (i:=3) vh.nd rfl (Or.inl rfl)) (zj (zJ 2 vh.nd (zL Vr (pv 2) (zL tZ (pv 1) (pv 3))))
   (zm (zJ 1 vh.nd (zL Vr (pv 1) (pv 3))))))
   (zm (zG (zp Uo hr T.QB (za (pv 1) (za (pv 2) zc)))))))),?_⟩
 refine⟨_,rfl,l,rfl,⟨_,hl⟩,?_⟩
 have lf:=xK hp
 refine wR (xs:=Ns.map fun N=>V.int (N:Nat)) (fun i σ H'=>∃(S A:Nat) (f3:Option V),H'=H/\zV n S (fun b=>decide (1<=QK (fs.take i) b))/\zV n A (fun b=>decide (2<=QK (fs.take i) b))/\σ=[some (.ref l),some (.int (S:Nat)),some (.int (A:Nat)),f3]) ⟨0,0,_,rfl,?_,?_,rfl⟩ (fun i σ H' _ ⟨_,_,_,e,_⟩=>by rw[e];exact hl) ?_ ?_
 ·exact yI (ZC n) fun b _=>rfl
 ·exact yI (ZC n) fun b _=>rfl
 ·rintro i x σ H' hx ⟨S,A,f3,rfl,tS,tA,rfl⟩
  rw[ztu] at hx
  cases hN:Ns[i]? with
  | none=>rw[hN] at hx;cases hx
  | some N =>
   rw[hN] at hx
   cases hx
   obtain⟨f,hf,tN⟩:=Xr hp hN
   refine⟨_,rfl,_,rfl,_,rfl,S,N,rfl,rfl,A,_,rfl,rfl,?_⟩
   refine⟨_,rfl,_,rfl,S,N,rfl,rfl,S|||N,A|||(S&&&N),_,rfl,yI (SJ tS tN) fun b _=>?_,yI (SJ tA (tY tS tN)) fun b _=>?_,rfl⟩
   ·rw[zY hf,zcv]
    cases f b
    ·rw[Bool.or_false];rfl
    ·rw[Bool.or_true];exact(decide_eq_true (Nat.le_add_left 1 _)).symm
   ·rw[zY hf,zcv]
    cases f b
    ·rw[Bool.and_false,Bool.or_false];rfl
    ·rw[Bool.and_true]
     rw[zt8,Bool.or_eq_true,decide_eq_true_iff,decide_eq_true_iff,decide_eq_true_iff]
     show _↔2<=_+1
     omega
 ·rintro σ H' ⟨S,A,f3,rfl,tS,tA,rfl⟩
  rw[zts,lf,ztV] at tS tA
  refine⟨_,rfl,_,rfl,S,A,n,_,_,rfl,tS,tA,fun R tR=>q R (yI tR fun b _=>?_)⟩
  rw[zt8,ztU,Bool.not_eq_true',decide_eq_true_iff,decide_eq_false_iff_not,decide_eq_true_iff]
  omega
theorem ziq (T:Txt P w K mg a)(zkb:zE P w K mg base zW k a.za9 a.zba M6 (zaR a.zA))(Zw:zE P w K mg base zW k a.X8 a.Wa Yt Wn)(Y6:zE P w K mg base zW k a.YT a.YW tG (zad K))(zfk:zE P w K mg base zW k a.Ry a.Rz Ve PB)(vO:zE P w K mg base zW k a.vM a.vN wz (uz (yP a.zA))):zE P w K mg base zW (k+1) a.zdJ a.zdK zae (za0 a.zA):=by
 refine T.zht.F.ok Rt (fun vs H Q E h=>?_) (fun cdv A outer s H vs Q E hr h=>?_)
 ·obtain⟨b,os,rs,F,k0,rfl,_⟩:=h
  rfl
 obtain⟨b,os,rs,F,k0,rfl,hB,hk,q⟩:=h
 refine⟨_,(zj (zJ 2 Rt.nd zjj)
   (zj (xJ PassesOwn.never rfl (yh (zp zkb hr T.ze8 (za (pv 0) (za (pv 1) zc)))) (z9 (i:=3) Rt.nd rfl (Or.inl rfl)) (zm (zg6 (zb7 hr) (pv 2) (pv 3) (zp Zw hr T.Wb (za (pv 3) zc)) rfl)))
   (zj (xJ PassesOwn.never rfl (yh (xT (S8 rfl) rfl T.W3 YC (za (pv 2) zc))) (z9 (i:=3) Rt.nd rfl (Or.inl rfl)) (zm (yr (zO xu (zL tZ (zde (zb7 hr) (pv 2) (pv 3) (fun _ _=>rfl)) (zp Y6 hr T.Y0 (za (Je rfl rfl T.W3 (pv 2)) zc))) zx (zR _)) (zm (yu (uw PySem.F.plainAttrs_dict PySem.F.slot_dict_pop PySem.F.type_dict_pop zlj (pv 2) (za (pv 3) zc)))) zU)))
   (zj (Lp (i:=4) Rt.nd rfl (Or.inr rfl) (zp Y6 hr T.Y0 (za (Je rfl rfl T.W3 (pv 2)) zc)))
   (zm (zG (uY (za (xT (S8 rfl) rfl T.W3 YC (za (pv 2) zc)) (za (vH (wO:=zq zdE) (js:=[4,0]) rfl (by show uZ _ _ "table" ["own", "book"];exact Ja (by decide +kernel)) rfl (zlk (pv 2)) (by show ∀j∈([4,0]:List Nat),j<5;decide) (fun cl C s₂ H₂ fp=>(zp zfk hr T.Jo (za (zL tZ (pv 0) (pv 1)) (za (zF (zbz (K:=K) rfl) rfl T.yJ yc (za (Qj (pv 2) T.yH T.Yc vO hr) zc)) zc))))) zc))))))))),?_⟩
 have L:=uD a.zA
 have o8:=(L.ord hB).le
 obtain⟨T0,hT⟩:∃T0:Cb->Nat,∀c,zV os.length (T0 c) (yR c):=⟨fun c=>(zdw os.length (yR c)).choose,fun c=>(zdw os.length (yR c)).choose_spec⟩
 refine fun d hd=>?_
 have gd:=Same.new hd (.dK [])
 refine⟨_,rfl,_,rfl,b,os,rs,F,k0,rfl,L.same hB gd,hk,fun pl qs H1 g1 hpl h1 PP=>?_⟩
 have lq:=PP.few o8
 have mq:∀c∈qs,c.length=os.length:=fun c hc=>((PP.mem c).mp hc).1
 have ndp:d≠pl:=zy zf hpl
 refine⟨pl,rfl,⟨_,zP.of h1⟩,?_⟩
 refine wR (xs:=qs.map cbV) (fun i σ H'=>∃f3 f4,Same H H'/\H' pl=some (.lst (qs.map cbV))/\H' d=some (.dK ((qs.take i).map (kvT T0)))/\σ=[some (.ref b),some (.int (k0:Nat)),some (.ref d),f3,f4]) ⟨_,_,gd.trans g1,h1,g1 _ _ zf,rfl⟩ (fun i σ H' _ ⟨_,_,_,h,_⟩=>zP.of h) ?_ ?_
 ·rintro i x σ H2 hx ⟨f3,f4,g,hp,hd',rfl⟩
  rw[ztu] at hx
  cases hc:qs[i]? with
  | none=>rw[hc] at hx;cases hx
  | some c =>
   rw[hc] at hx
   cases hx
   have lc:=mq c (ztx hc)
   refine⟨_,rfl,c,rfl,by omega,fun R H3 g3 tR=>?_⟩
   rw[lc] at tR
   obtain rfl:R=T0 c:=yF.Vc tR (hT c) fun _ _=>rfl
   refine⟨_,rfl,_,rfl,d,_,rfl,zhR.k (k:=.inr (cbS c)) (g3 _ _ hd') ?_,?_⟩
   ·rw[zts,ztQ]
    exact ztB (show _<10000 by omega) (by decide)
   refine⟨_,_,(g.trans g3).over hd _,by rw[zB (Ne.symm ndp)];exact g3 _ _ hp,?_,rfl⟩
   rw[zf,zY hc,ztG]
   have no:c∉qs.take i:=fun hm=>by
    obtain⟨hi,rfl⟩:=ztv.mp hc
    obtain⟨j,hj,ej⟩:=zua hm
    rw[ztQ] at hj
    rw[List.getElem_take] at ej
    have:=(List.pairwise_iff_getElem.mp PP.nd) j i (by omega) hi (by omega)
    exact this ej
   rw[zji _ (zeL no)]
   rfl
 rintro σ H2 ⟨f3,f4,g2,_,hd2,rfl⟩
 rw[zts,ztV] at hd2
 refine⟨_,rfl,d,_,rfl,hd2,fun ll hll=>?_⟩
 have el:(qs.map (kvT T0)).map (fun e=>kV e.1)=qs.map cbV:=by rw[zt4];rfl
 rw[el]
 have gl:=g2.trans (Same.new hll (.lst (qs.map cbV)))
 have ndl:d≠ll:=zy hd2 hll
 have hdl:upd H2 ll (.lst (qs.map cbV)) d=some (.dK (qs.map (kvT T0))):=(Same.new hll _) _ _ hd2
 have hll':upd H2 ll (.lst (qs.map cbV)) ll=some _:=zf
 generalize upd H2 ll _=H3 at gl hdl hll' ⊢
 refine⟨ll,rfl,⟨_,zP.of hll'⟩,?_⟩
 have ev:∀ks:List Cb,(ks.map (kvT T0)).map (·.2)=(ks.map T0).map fun N=>V.int (N:Nat):=fun ks=>by rw[zt4,zt4];rfl
 have pv:∀ks:List Cb,Paired (zV os.length) (ks.map T0) (ks.map yR):=fun ks=>by
  induction ks with
  | nil=>exact .nil
  | cons c ks ih=>exact .cons (hT c) ih
 refine wR (xs:=qs.map cbV) (fun i σ H'=>∃ks f3 f4,Same H H'/\H' ll=some (.lst (qs.map cbV))/\H' d=some (.dK (ks.map (kvT T0)))/\Whi os.length (tB rs k0) qs i ks/\ks=(qs.take i).foldl (zmY os.length) qs/\σ=[some (.ref b),some (.int (k0:Nat)),some (.ref d),f3,f4]) ⟨qs,_,_,gl,hll',hdl,Whi.start PP,rfl,rfl⟩ (fun i σ H' _ ⟨_,_,_,_,h,_⟩=>zP.of h) ?_ ?_
 ·rintro i x σ H4 hx ⟨ks,f3,f4,g,hl',hd',wh,eks,rfl⟩
  rw[ztu] at hx
  cases hc:qs[i]? with
  | none=>rw[hc] at hx;cases hx
  | some c =>
   rw[hc] at hx
   cases hx
   have mc:=wh.has hc
   have get:=Jx.k (k:=.inr (cbS c)) hd'
   rw[zdx mc] at get
   refine⟨_,rfl,_,rfl,d,_,rfl,get,_,rfl,d,_,rfl,hd',fun lv hlv=>?_⟩
   rw[ev ks]
   have gv:=Same.new hlv (.lst ((ks.map T0).map fun N=>V.int (N:Nat)))
   have hlv':upd H4 lv (.lst ((ks.map T0).map fun N=>V.int (N:Nat))) lv=some _:=zf
   generalize upd H4 lv _=H5 at gv hlv' ⊢
   refine⟨lv,os.length,ks.map T0,ks.map yR,rfl,zP.of hlv',pv ks,fun R tR=>⟨T0 c,R,rfl,rfl,rfl,_,rfl,z8 (fun e=>?_) (fun e=>?_)⟩⟩
   ·have e0:T0 c&&&R=0:=by
     have:=of_decide_eq_true e
     injection this with this
     exact Int.ofNat.inj this
    have no:∀b,b<2^os.length->¬Own ks c b:=fun b' hb o=>by
     have y:=yF.ZM (tY (hT c) tR) hb
     rw[e0,Nat.zero_testBit,o.1,decide_eq_true ((own_one (wh.nd PP) mc o.1).mpr o)] at y
     cases y
    refine⟨_,rfl,.inr (.inr (.inl ⟨rfl,.inl ⟨_,gv _ _ hd'⟩⟩)),_,rfl,d,_,.inr (cbS c),_,rfl,rfl,gv _ _ hd',zdx mc,?_⟩
    rw[zjU]
    exact⟨_,_,_,(g.trans gv).over hd _,by rw[zB (Ne.symm ndl)];exact gv _ _ hl',zf,wh.gone PP hc no,by rw[zY hc,List.foldl_append,<-eks];exact(if_neg (fun⟨b',h1,h2⟩=>no b' h1 h2)).symm,rfl⟩
   ·have e0:T0 c&&&R≠0:=fun z=>e (decide_eq_true (by show V.int ((T0 c&&&R:Nat):Int)=V.int 0;rw[z];rfl))
    have yes:∃b,b<2^os.length/\Own ks c b:=by
     refine Classical.byContradiction fun z=>e0 (yF.Vc (tY (hT c) tR) (ZC os.length) fun b' hb=>?_)
     cases h1:yR c b' with
     | false=>rfl
     | true =>
      rw[Bool.true_and]
      refine decide_eq_false fun h2=>z ⟨b',hb,(own_one (wh.nd PP) mc h1).mp h2⟩
    exact⟨_,_,_,g.trans gv,gv _ _ hl',gv _ _ hd',wh.stay hc yes,by rw[zY hc,List.foldl_append,<-eks];exact(if_pos yes).symm,rfl⟩
 rintro σ H4 ⟨ks,f3,f4,g,hl',hd',wh,eks,rfl⟩
 rw[zts] at wh eks
 rw[ztV] at eks
 have nd:=wh.nd PP
 have lk:ks.length<=2187:=ztO wh.sub.length_le lq
 refine⟨_,rfl,d,_,rfl,hd',fun lv hlv=>?_⟩
 rw[ev ks]
 have gv:=Same.new hlv (.lst ((ks.map T0).map fun N=>V.int (N:Nat)))
 have hlv':upd H4 lv (.lst ((ks.map T0).map fun N=>V.int (N:Nat))) lv=some _:=zf
 generalize upd H4 lv _=H5 at gv hlv' ⊢
 refine⟨lv,os.length,ks.map T0,ks.map yR,rfl,zP.of hlv',pv ks,fun R tR=>?_⟩
 have hd5:=gv _ _ hd'
 have g5:=g.trans gv
 refine⟨_,rfl,d,_,rfl,hd5,fun cl hcl=>?_⟩
 have ek:(ks.map (kvT T0)).map (fun e=>kV e.1)=ks.map cbV:=by rw[zt4];rfl
 rw[ek]
 have gc:=Same.new hcl (.lst (ks.map cbV))
 have hcl':upd H5 cl (.lst (ks.map cbV)) cl=some _:=zf
 have fcl:=g5.free hcl
 have ndc:d≠cl:=zy hd5 hcl
 generalize upd H5 cl _=H6 at gc hcl' ⊢
 refine⟨_,rfl,d,_,rfl,gc _ _ hd5,fun o=>?_⟩
 have gG:=(g5.trans gc).over hd (.KY o (.dK (ks.map (kvT T0))))
 have hG:upd H6 d (.KY o (.dK (ks.map (kvT T0)))) d=some _:=zf
 have cG:upd H6 d (.KY o (.dK (ks.map (kvT T0)))) cl=some (.lst (ks.map cbV)):=by rw[zB (Ne.symm ndc)];exact hcl'
 generalize upd H6 d (.KY o (.dK (ks.map (kvT T0))))=G at gG hG cG ⊢
 have lm:(ks.map (kvT T0)).length=ks.length:=zts _
 refine zll (fun i ys H'=>Same G H'/\∃ps rows,ys=ps.map V.ref/\rows.length=i/\Paired (fun p r=>G p=none/\H' p=some (.lst (zX r))) ps rows/\ps.Nodup/\∀(j:Nat) c r,ks[j]?=some c->rows[j]?=some r->r.length=os.length/\Own ks c (zu r)/\((yF.allR os.length).filter fun r=>yR c (zu r)&&decide (QK (ks.map yR) (zu r)=1)).head?=some r) ⟨Same.refl _,[],[],rfl,rfl,.nil,.nil,fun j c r _ e=>by cases e⟩ (by rw[lm];exact wY (by omega)) ?_ ?_ ?_
 ·rintro i ys H' hi ⟨g',ps,rows,rfl,e,pp,_⟩
  exact⟨g' _ _ hG,by rw[zts,xK pp,e];exact ztI _⟩
 ·rintro i p ys H' Q0 hp ⟨g',ps,rows,rfl,e,pp,np,ow⟩ hn
  rw[ztu] at hp
  cases hc:ks[i]? with
  | none=>rw[hc] at hp;cases hp
  | some c =>
   rw[hc] at hp
   cases hp
   have hB':=L.same hB (gG.trans g')
   obtain⟨dx2,fs2,zdT,hm⟩:=L.ins hB'
   have an:yF.anyB os.length (fun b=>yR c b&&decide (QK (ks.map yR) b=1))=true:=by
    obtain⟨b',hb,o'⟩:=wh.done c (ztx hc)
    rw[yF.anyB_iff]
    exact⟨b',hb,by rw[o'.1,decide_eq_true ((own_one nd (ztx hc) o'.1).mpr o')];rfl⟩
   refine⟨_,rfl,_,rfl,T0 c,R,rfl,rfl,_,rfl,b,dx2,fs2,rfl,zdT,hm _ (by decide +kernel),b,os,rs,F,rfl,hB',fun l1 H7 g7 fl1 hl1=>?_⟩
   refine⟨l1,_,rfl,.inl (zP.of hl1),?_⟩
   rw[zts]
   refine⟨T0 c&&&R,os.length,_,rfl,o8,tY (hT c) tR,an,fun l2 H8 r g8 hl2 h2 hd2=>hn _ _ ⟨g'.trans (g7.trans g8),ps++[l2],rows++[r],by rw[ztG];rfl,by rw[ztA,e];rfl,?_,?_,?_⟩⟩
   ·exact Vs (wJ (fun _ _ z=>⟨z.1,(g7.trans g8) _ _ z.2⟩) pp) (.cons ⟨(g'.trans g7).free hl2,h2⟩ .nil)
   ·refine List.nodup_append.mpr ⟨np,List.pairwise_singleton _ _,fun x hx y hy=>?_⟩
    rw[List.mem_singleton.mp hy]
    obtain⟨j,hj⟩:=List.mem_iff_getElem?.mp hx
    obtain⟨r',_,_,z⟩:=Xr pp hj
    exact zy (g7 _ _ z) hl2
   ·intro j c' r' h1 h2'
    have mr:=List.mem_filter.mp (List.mem_of_head? hd2)
    rcases Nat.lt_or_ge j rows.length with z | z
    ·rw[ztZ z] at h2'
     exact ow j c' r' h1 h2'
    ·have hj:j<(rows++[r]).length:=(ztv.mp h2').1
     rw[ztA,zt0] at hj
     have ej:j=i:=by omega
     subst ej
     rw[List.getElem?_append_right z,e,Nat.sub_self] at h2'
     obtain rfl:=ztX h2'
     obtain rfl:=ztX (hc.symm.trans h1)
     have y:=mr.2
     rw[ztU] at y
     exact⟨yF.vQ _ _ mr.1,(own_one nd (ztx hc) y.1).mp (of_decide_eq_true y.2),hd2⟩
 ·rintro ys H' rl ⟨g',ps,rows,rfl,e,pp,np,ow⟩ hrl
  have gr:=Same.new hrl (.lst (ps.map V.ref))
  refine⟨by show 2<=sizeLine;decide,fun t ht=>?_⟩
  have gt:=Same.new ht (.tup [.ref cl,.ref rl])
  have gg:=gG.trans (g'.trans gr)
  refine q t cl rl ks ps rows _ (gg.trans gt) (gg.free ht) fcl ((gG.trans g').free hrl) (zy (g' _ _ cG) hrl) zf ((g'.trans (gr.trans gt)) _ _ cG) (gt _ _ zf) (wJ (fun p r z=>⟨gG.free z.1,Ne.symm (zy cG z.1),zy z.2 hrl,(gr.trans gt) _ _ z.2⟩) pp) np ⟨fun c hc=>?_,PP.up.sublist wh.sub,wh.cov,by rw[e,lm],fun j c r h1 h2=>let ⟨z1,z2,_⟩:=ow j c r h1 h2;⟨z1,z2⟩⟩ ⟨⟨qs,PP,eks⟩,by rw[e,lm],fun j c r h1 h2=>(ow j c r h1 h2).2.2⟩
  exact(PP.mem c).mp (wh.sub.subset hc)
theorem KN (T:Txt P w K mg a)(W6:zE P w K mg base zW k a.Z5 a.Z6 uG (U4 a.zA)):zE P w K mg base zW (k+1) a.Xn a.Xo Zd (Ri a.zA K):=by
 refine T.T4.F.ok Ub (fun vs H Q E h=>?_) (fun cdv A outer s H vs Q E hr h=>?_)
 ·obtain⟨b,l,os,rs,F,qs,rfl,_⟩:=h
  rfl
 obtain⟨b,l,os,rs,F,qs,rfl,hB,hl,hq,q⟩:=h
 refine⟨_,(zm (xJ PassesOwn.never rfl (yh (pv 1)) (z9 (i:=2) Ub.nd rfl (Or.inl rfl)) (zm (yu (zp W6 hr T.WX (za (pv 0) (za (pv 2) zc))))))),?_⟩
 refine⟨_,rfl,l,rfl,⟨_,hl⟩,?_⟩
 refine wR (xs:=qs.map fun q=>V.str (cbS q)) (fun i σ H'=>∃f2,Same H H'/\σ=[some (.ref b),some (.ref l),f2]) ⟨_,Same.refl _,rfl⟩ (fun i σ H' _ ⟨_,g,_⟩=>g.seq hl) ?_ ?_
 ·rintro i x σ H' hx ⟨f2,g,rfl⟩
  obtain⟨c,hc,rfl⟩:=List.mem_map.mp (ztx hx)
  exact⟨_,rfl,_,rfl,b,os,rs,F,c,rfl,(uD a.zA).same hB g,hq c hc,fun H2 g2=>⟨_,g.trans g2,rfl⟩⟩
 ·rintro σ H' ⟨f2,g,rfl⟩
  exact q _ g
theorem zfl (T:Txt P w K mg a)(xH:zE P w K mg base zW k a.yL a.yM yx (Yp a.zA))(JV:zE P w K mg base zW k a.Xn a.Xo Zd (Ri a.zA K))(Zw:zE P w K mg base zW k a.X8 a.Wa Yt Wn)(vU:zE P w K mg base zW k a.xZ a.wg yZ (XQ a.zA)):zE P w K mg base zW (k+1) a.Tn a.Tp Wt (Qv a.zA K):=by
 refine T.Nt.F.ok Vm (fun vs H Q E h=>?_) (fun cdv A outer s H vs Q E hr h=>?_)
 ·obtain⟨b,l,os,rs,F,k0,qs,rfl,_⟩:=h
  rfl
 obtain⟨b,l,os,rs,F,k0,qs,rfl,hB,hk,hl,hq,q⟩:=h
 refine⟨_,(zj (yu (u9 (pv 0) T.yH T.wQ xH hr (za (pv 1) zc)))
   (zj (yu (zp JV hr T.T4 (za (pv 0) (za (pv 2) zc))))
   (zj (zJ 3 Vm.nd zx)
   (zj (xJ PassesOwn.never rfl (yh (pv 2)) (z9 (i:=4) Vm.nd rfl (Or.inl rfl)) (zm (zJ 3 Vm.nd (zL Vr (pv 3) (zp Zw hr T.Wb (za (pv 4) zc))))))
   (zm (zG (yV xu (pv 3) (u9 (pv 0) T.yH T.Zf vU hr (za (pv 1) zc)) (zR _)))))))),?_⟩
 have L:=uD a.zA
 have o8:=(L.ord hB).le
 obtain⟨dx,ml,rl,tl,nd,rv,tbs,zqe,h⟩:=id hB
 refine⟨_,rfl,b,dx,_,rfl,h.hb,rfl,_,rfl,b,os,rs,F,k0,rfl,hB,hk,?_⟩
 refine⟨_,rfl,_,rfl,b,l,os,rs,F,qs,rfl,hB,hl,hq,fun H1 g1=>?_⟩
 refine⟨_,rfl,l,rfl,⟨_,g1.seq hl⟩,?_⟩
 refine wR (xs:=qs.map fun q=>V.str (cbS q)) (fun i σ H'=>∃(N:Nat) (f4:Option V),Same H H'/\zV os.length N (fun b=>(qs.take i).any fun c=>yR c b)/\σ=[some (.ref b),some (.int (k0:Nat)),some (.ref l),some (.int (N:Nat)),f4]) ⟨0,_,g1,ZC _,rfl⟩ (fun i σ H' _ ⟨_,_,g,_⟩=>g.seq hl) ?_ ?_
 ·rintro i x σ H' hx ⟨N,f4,g,tN,rfl⟩
  rw[ztu] at hx
  cases hc:qs[i]? with
  | none=>rw[hc] at hx;cases hx
  | some c =>
   rw[hc] at hx
   cases hx
   have lc:=hq c (ztx hc)
   refine⟨_,rfl,_,rfl,c,rfl,by omega,fun R H2 g2 tR=>⟨N,R,rfl,rfl,_,_,g.trans g2,?_,rfl⟩⟩
   rw[lc] at tR
   refine yI (SJ tN tR) fun b _=>?_
   rw[zY hc,List.any_append,List.any_cons,List.any_nil,Bool.or_false]
 ·rintro σ H' ⟨N,f4,g,tN,rfl⟩
  rw[zts,ztV] at tN
  have hB':=L.same hB g
  obtain⟨dx2,ml2,rl2,tl2,NQ,rv2,zsN,zm2,h2⟩:=id hB'
  refine⟨_,rfl,_,rfl,b,dx2,_,rfl,h2.hb,rfl,_,rfl,b,os,rs,F,k0,rfl,hB',hk,fun M tM=>⟨rfl,?_⟩⟩
  have e:decide (V.int (N:Int)=V.int (M:Int))=zaS os.length (tB rs k0) qs:=by
   rw[zt8,decide_eq_true_iff,zaT]
   constructor
   ·intro z b' hb
    injection z with z
    have z:N=M:=Int.ofNat.inj z
    subst z
    rw[<-yF.ZM tN hb]
    exact yF.ZM tM hb
   ·intro z
    rw[yF.Vc tN tM z]
  rw[e]
  exact q _ g
theorem zir (T:Txt P w K mg a):zE P w K mg base zW (k+1) a.M9 a.La Rn (J7 K):=by
 refine T.ze7.F.ok zih (fun vs H Q E h=>?_) (fun cdv A outer s H vs Q E hr h=>?_)
 ·obtain⟨l,r,xs,ns,rfl,_⟩:=h
  rfl
 obtain⟨l,r,xs,ns,rfl,hl,hq,hz,q⟩:=h
 refine⟨_,(zm (zG (Sh (yV xu (zF zH rfl T.yJ yc (za (pv 1) zc)) (zF zH rfl T.yJ yc (za (pv 0) zc)) (zR _)) (Pn (zF (wV rfl) rfl T.Um Yk (za (vH (wO:=zq za4) (js:=[]) rfl (by show uZ _ _ "value" [];exact Ja (by decide +kernel)) rfl (yh (pv 1)) (by show ∀j∈([]:List Nat),j<2;decide) (fun cl C s₂ H₂ fp=>(yV (zax (K:=K) rfl) (pv 0) (uY (za zx (za zx zc))) (by with_unfolding_all rfl)))) zc)))))),?_⟩
 have hlen:(ns.map V.int).length=ns.length:=zts _
 refine⟨_,rfl,r,_,rfl,.inl hq,_,rfl,l,_,rfl,.inl hl,rfl,_,rfl,z8 (fun c=>?_) (fun c=>?_)⟩
 ·have c':ns.length=xs.length:=by
   have:=of_decide_eq_true c
   injection this with this
   rw[hlen] at this;omega
  refine⟨_,rfl,r,rfl,⟨_,hq⟩,zc6 (fun x v=>v=(match x with | .int i=>.bl (i==0||i==1) | _=>.non)) hq (by rw[hlen];exact ztL (zN hz)) ?_ ?_ ?_⟩
  ·intro i x H' hx g
   rw[ztu] at hx
   cases ho:ns[i]? with
   | none=>rw[ho] at hx;cases hx
   | some y =>
    rw[ho] at hx
    cases hx
    refine⟨_,rfl,by show 2<=sizeLine;decide,fun p hp=>⟨p,_,rfl,.inr (wG.of zf),rfl,rfl,?_,g.trans (Same.new hp _)⟩⟩
    show V.bl ((0==y)||((1==y)||false))=V.bl (y==0||y==1)
    have e0:((0:Int)==y)=(y==0):=by rw[zt8];simp;exact eq_comm
    have e1:((1:Int)==y)=(y==1):=by rw[zt8];simp;exact eq_comm
    rw[e0,e1,Bool.or_false]
  ·rintro σ' H' Q1 Q2 hQ ⟨v,e,z,h2⟩
   exact⟨v,e,z,fun p hp=>let ⟨a1,a2,a3,a4,a5,a6,a7⟩:=h2 p hp;⟨a1,a2,a3,a4,a5,a6,hQ _ _ a7⟩⟩
  ·intro ys H' p hr' g hp
   have e:=LQ (f:=fun x=>match x with | .int i=>.bl (i==0||i==1) | _=>.non) hr'
   have e2:ys=(ns.map fun i=>(i==0||i==1)).map V.bl:=by rw[e,zt4,zt4];rfl
   subst e2
   refine⟨p,_,rfl,zP.of zf,?_⟩
   have e4:(ns.map fun i=>(i==0||i==1)).all id=W7 xs.length ns:=by
    unfold W7
    rw[decide_eq_true c',Bool.true_and,List.all_map]
    rfl
   rw[e4]
   exact q _ (g.trans (Same.new hp _))
 ·have e4:W7 xs.length ns=false:=by
   unfold W7
   rw[decide_eq_false (fun z=>c (decide_eq_true (by rw[hlen,z]))),Bool.false_and]
  rw[<-e4]
  exact q _ (Same.refl _)
theorem zfm (T:Txt P w K mg a):zE P w K mg base zW (k+1) a.Tc a.Td Wo (Qg K):=by
 refine T.zbb.F.ok Xd (fun vs H Q E h=>?_) (fun cdv A outer s H vs Q E hr h=>?_)
 ·obtain⟨N,n,f,l,r,rfl,_⟩:=h
  rfl
 obtain⟨N,n,f,l,r,rfl,tb,hq,hl,hn,q⟩:=h
 refine⟨_,(zj (zJ 2 Xd.nd zx)
   (zj (xJ PassesOwn.never rfl (zkK rfl T.RZ (za (pv 1) zc)) (zcM rfl (Y7 (z9 (i:=3) Xd.nd rfl (Or.inl rfl)) (Y7 (z9 (i:=4) Xd.nd rfl (Or.inl rfl)) JX))) (zm (zJ 2 Xd.nd (zL Vr (pv 2) (zL ZD (pv 4) (pv 3))))))
   (zm (zG (zL tZ (zL zgU (pv 0) (pv 2)) zx))))),?_⟩
 have len:(zX r).length=n:=by rw[zts];exact hl
 have two:∀b:Bool,b.toNat<2^10000:=fun b=>zcc (k:=1) (by cases b<;>decide) (by decide)
 refine⟨_,rfl,l,zX r,rfl,hq,?_⟩
 refine zi2 (xs:=zX r) (fun i σ H'=>Same H H'/\∃(f1 f2:Option V),σ=[some (.int N),some (.ref l),some (.int (zu (r.take i):Nat)),f1,f2]) ⟨Same.refl _,_,_,rfl⟩ ?_ ?_ ?_
 ·rintro i σ H' _ ⟨g,_⟩
  exact g.seq hq
 ·rintro i x σ H' p hx ⟨g,f1,f2,rfl⟩ hp
  have hi:i<r.length:=by
   have:=(ztv.mp hx).1
   rw[zts] at this;exact this
  have ex:x=V.int ((r[i]).toNat:Nat):=by
   rw[ztu,ztt hi] at hx
   exact(ztX hx).symm
  subst ex
  refine⟨p,_,rfl,wG.of zf,rfl,_,_,rfl,_,_,rfl,rfl,?_⟩
  have lb:=Yl (r.take i)
  rw[ztQ,Nat.min_eq_left (by omega)] at lb
  refine⟨_,rfl,_,rfl,_,rfl,(r[i]).toNat,i,rfl,rfl,two _,by omega,_,_,rfl,rfl,?_⟩
  refine⟨g.trans (SM hp _),some (.int (i:Nat)),some (.int ((r[i]).toNat:Nat)),?_⟩
  have et:r.take (i+1)=r.take i++[r[i]]:=by rw[List.take_succ,ztt hi];rfl
  have e2:=N8 (r.take i) r[i]
  rw[<-et,ztQ,Nat.min_eq_left (by omega),<-zi8 lb] at e2
  rw[e2]
  rfl
 ·rintro σ H' ⟨g,f1,f2,rfl⟩
  rw[len,<-hl,ztV]
  refine⟨_,rfl,_,rfl,_,_,rfl,rfl,_,1,rfl,rfl,?_⟩
  have lb:=Yl r
  have e:(N / 2^zu r&&&1)=(f (zu r)).toNat:=by
   rw[Nat.and_one_is_mod,QG,Nat.testBit_div_two_pow,Nat.zero_add,tb (zu r),<-hl,decide_eq_true lb,Bool.true_and]
  show Q (.int ((N / 2^zu r&&&1:Nat):Int)) H'
  rw[e]
  exact q H' g
theorem zbn (T:Txt P w K mg a)
  (NK:zE P w K mg base zW k a.Tn a.Tp Wt (Qv a.zA K))
  (zgy:zE P w K mg base zW k a.Np a.Nq U9 (Km a.zA))
  (Zw:zE P w K mg base zW k a.X8 a.Wa Yt (Wn))
  (Y6:zE P w K mg base zW k a.YT a.YW tG (zad K))
  (vO:zE P w K mg base zW k a.vM a.vN wz (uz (yP a.zA)))
  (zkc:zE P w K mg base zW k a.M9 a.La Rn (J7 K))
  (zgz:zE P w K mg base zW k a.Tc a.Td Wo (Qg K)):zE P w K mg base zW (k+1) a.VD a.VF YH (zdy a.zA):=by
 refine T.Pb.F.ok Wu (fun vs H Q E h=>?_) (fun cdv A outer s H vs Q E hr h=>?_)
 ·obtain⟨b,l,e,os,rs,F,k0,ks,rows,rfl,_⟩:=h
  rfl
 obtain⟨b,l,e,os,rs,F,k0,ks,rows,rfl,hB,hk,hl,lq,l3,hR,r3,r1,q⟩:=h
 refine⟨_,(zj (yr (PW.pt (Va (vD (yE (zp NK hr T.Nt (za (pv 0) (za (pv 1) (za (pv 2) zc)))) (fun _=>rfl))) (Wd (zO V0 (zF zH rfl T.yJ yc (za (pv 3) zc)) (zF zH rfl T.yJ yc (za (pv 2) zc)) (zR _))))) (zm (zG wN)) zU)
   (zj (yr (vD (yE (zF (wV rfl) rfl T.Um Yk (za (vH (wO:=zq vW) (js:=[0,1]) rfl (by show uZ _ _ "cube" ["book", "room"];exact Ja (by decide +kernel)) rfl (yh (pv 2)) (by show ∀j∈([0,1]:List Nat),j<6;decide) (fun cl C s₂ H₂ fp=>(zp zgy hr T.zbe (za (pv 1) (za (pv 2) (za (pv 0) zc)))))) zc)) (fun _=>rfl))) (zm (zG wN)) zU)
   (zj (Lp (i:=4) Wu.nd rfl (Or.inr rfl) (zp Y6 hr T.Y0 (za (vH (wO:=zq vW) (js:=[]) rfl (by show uZ _ _ "cube" [];exact Ja (by decide +kernel)) rfl (yh (pv 2)) (by show ∀j∈([]:List Nat),j<6;decide) (fun cl C s₂ H₂ fp=>(zp Zw hr T.Wb (za (pv 0) zc)))) zc)))
   (zj (Lp (i:=5) Wu.nd rfl (Or.inr rfl) (Qj (pv 0) T.yH T.Yc vO hr))
   (zm (zG (zF (wV rfl) rfl T.Um Yk (za (zmQ (wO:=zq vW) (js:=[5,4]) rfl (by show zck (zq vW) _ "cube" "row" ["order", "own"];exact⟨⟨rfl,by decide +kernel,by decide +kernel,by decide +kernel,by decide +kernel⟩,by decide +kernel,by decide +kernel,by decide +kernel⟩) rfl (zju rfl T.zl5 (za (pv 2) (za (pv 3) zc))) (by show ∀j∈([5,4]:List Nat),j<6;decide) (fun cl C s₂ H₂ fp=>(Sh (zp zkc hr T.ze7 (za (pv 2) (za (pv 1) zc))) (Pn (yV xu (zp zgz hr T.zbb (za (zL tZ (zp Zw hr T.Wb (za (pv 0) zc)) (pv 3)) (za (pv 1) zc))) zx (zR _)))))) zc)))))))),?_⟩
 have L:=uD a.zA
 have o8:=(L.ord hB).le
 obtain⟨ps,he,pp⟩:=id hR
 have lp:=xK pp
 have q:=fun H' g=>q H' g
 unfold Mv at q
 refine⟨_,rfl,_,rfl,_,rfl,b,l,os,rs,F,k0,ks,rfl,hB,hk,zP.of hl,lq,fun H1 g1=>⟨_,rfl,?_⟩⟩
 obtain⟨T0,hT⟩:∃T0:Cb->Nat,∀c,zV os.length (T0 c) (yR c):=⟨fun c=>(zdw os.length (yR c)).choose,fun c=>(zdw os.length (yR c)).choose_spec⟩
 have ro:∀{c:Cb},c∈ks->∀{H':Hp} {Q0:VK},(∀H3,Same H' H3->Q0 (.int (T0 c:Nat)) H3)->Wn [cbV c] H' Q0 E0:=fun {c} hc {H' Q0} h=>⟨c,rfl,by have:=lq c hc;omega,fun R H3 g3 tR=>by
  rw[lq c hc] at tR
  obtain rfl:R=T0 c:=yF.Vc tR (hT c) fun _ _=>rfl
  exact h _ g3⟩
 cases ec:zaS os.length (tB rs k0) ks with
 | false =>
  rw[ec] at q
  exact Xi (Xi (q _ g1))
 | true =>
 rw[ec,Bool.true_and] at q
 refine Zi ⟨_,rfl,e,_,rfl,.inl (zP.of (g1 _ _ he)),_,rfl,l,_,rfl,.inl (zP.of (g1 _ _ hl)),rfl,_,rfl,?_⟩
 rw[zts,zts,lp]
 by_cases el:rows.length=ks.length
 rotate_left
 ·rw[decide_eq_false el,Bool.false_and] at q
  refine ifA ?_ (q _ g1)
  rw[decide_eq_false fun z=>el (by injection z;omega)]
  rfl
 rw[decide_eq_true el,Bool.true_and] at q
 refine ifB (by rw[el,decide_eq_true rfl];rfl) ?_
 have hl1:=g1 _ _ hl
 refine⟨_,rfl,l,rfl,⟨_,zP.of hl1⟩,?_⟩
 refine Qu cbV (fun c=>.bl (yj os.length (tB rs k0) c)) (zP.of hl1) (wY (by omega)) (fun c H' Q0 hc g hQ=>⟨_,rfl,_,rfl,_,rfl,b,os,rs,F,k0,c,rfl,L.same hB (g1.trans g),hk,lq c hc,fun H3 g3=>hQ _ g3⟩) (fun H2 l2 g2 hl2=>?_)
 have em:ks.map (fun c=>V.bl (yj os.length (tB rs k0) c))=(ks.map (yj os.length (tB rs k0))).map V.bl:=by rw[zt4];rfl
 rw[em]
 have g3:=g1.trans (g2.trans (Same.new hl2 (.lst ((ks.map (yj os.length (tB rs k0))).map V.bl))))
 refine⟨l2,_,rfl,zP.of zf,ks.all (yj os.length (tB rs k0)),?_,?_⟩
 ·show _=(ks.map (yj os.length (tB rs k0))).all id
  rw[List.all_map]
  rfl
 generalize upd H2 l2 _=H3 at g3 ⊢
 cases ep:ks.all (yj os.length (tB rs k0)) with
 | false =>
  rw[ep] at q
  exact Xi (q _ g3)
 | true =>
 rw[ep,Bool.true_and] at q
 refine Zi ?_
 have hl3:=g3 _ _ hl
 refine⟨_,rfl,l,rfl,⟨_,zP.of hl3⟩,?_⟩
 refine Qu cbV (fun c=>.int (T0 c:Nat)) (zP.of hl3) (wY (by omega)) (fun c H' Q0 hc g hQ=>⟨_,rfl,ro hc hQ⟩) (fun H4 l4 g4 hl4=>?_)
 have ev:ks.map (fun c=>V.int (T0 c:Nat))=(ks.map T0).map fun N=>V.int (N:Nat):=by rw[zt4];rfl
 rw[ev]
 have g5:=g3.trans (g4.trans (Same.new hl4 (.lst ((ks.map T0).map fun N=>V.int (N:Nat)))))
 have pv:∀ks:List Cb,Paired (zV os.length) (ks.map T0) (ks.map yR):=fun ks=>by
  induction ks with
  | nil=>exact .nil
  | cons c ks ih=>exact .cons (hT c) ih
 refine⟨l4,os.length,ks.map T0,ks.map yR,rfl,zP.of zf,pv ks,fun R tR=>?_⟩
 generalize upd H4 l4 _=H5 at g5 ⊢
 have hB5:=L.same hB g5
 obtain⟨dx,fs,zdT,hm⟩:=L.ins hB5
 refine⟨_,rfl,b,dx,fs,rfl,zdT,hm _ (by decide +kernel),b,os,rs,F,rfl,hB5,fun lo H6 g6 hlo h6=>?_⟩
 have g7:=g5.trans g6
 refine⟨_,rfl,_,rfl,l,e,_,_,rfl,zP.of (g7 _ _ hl),zP.of (g7 _ _ he),?_⟩
 refine zln (fun i=>.bl (shw os.length ks (ks.getD i []) (rows.getD i []))) (zP.of (g7 _ _ hl)) (zP.of (g7 _ _ he)) (by rw[zts,zts];omega) (by rw[zts];exact wY (by omega)) (fun i u v H' Q0 hu hv g hQ=>?_) (fun H8 l8 g8 hl8=>?_)
 ·rw[ztu] at hu hv
  cases hc:ks[i]? with
  | none=>rw[hc] at hu;cases hu
  | some c =>
  cases hp:ps[i]? with
  | none=>rw[hp] at hv;cases hv
  | some p =>
  rw[hc] at hu
  rw[hp] at hv
  cases hu
  cases hv
  obtain⟨ns,hn,hpn⟩:=Xr pp hp
  have mc:=ztx hc
  rw[ztF,ztF,hc,hn] at hQ
  have gz:=g7.trans g
  refine⟨_,rfl,_,rfl,lo,p,os.map V.str,ns,rfl,zP.of (g _ _ h6),zP.of (gz _ _ hpn),r1 ns (ztx hn),fun H9 g9=>⟨_,rfl,?_⟩⟩
  rw[zts]
  have hQ:∀H3,Same H' H3->Q0 (.bl (shw os.length ks c ns)) H3:=hQ
  unfold shw at hQ
  cases er:W7 os.length ns with
  | false =>
   rw[er] at hQ
   exact Zi (hQ _ g9)
  | true =>
   rw[er,Bool.true_and] at hQ
   obtain⟨ev2,lb⟩:=zcw er
   rw[ev2] at hpn
   refine Xi ⟨_,rfl,ro mc fun Ha ga=>⟨_,rfl,T0 c,R,rfl,rfl,_,rfl,T0 c&&&R,os.length,_,p,tD ns,rfl,tY (hT c) tR,zP.of ((gz.trans (g9.trans ga)) _ _ hpn),lb,o8,fun Hb gb=>⟨rfl,?_⟩⟩⟩
   have eb:∀x:Bool,decide (V.int ((x.toNat:Nat):Int)=V.int 1)=x:=fun x=>by cases x<;>rfl
   rw[eb]
   exact hQ _ (g9.trans (ga.trans gb))
 ·rw[zts]
  have em2:(List.range ks.length).map (fun i=>V.bl (shw os.length ks (ks.getD i []) (rows.getD i [])))=((List.range ks.length).map fun i=>shw os.length ks (ks.getD i []) (rows.getD i [])).map V.bl:=by rw[zt4];rfl
  rw[em2]
  refine⟨l8,_,rfl,zP.of zf,?_⟩
  rw[List.all_map]
  exact q _ (g7.trans (g8.trans (Same.new hl8 _)))
theorem KQ (T:Txt P w K mg a):zE P w K mg base zW (k+1) a.uo a.ur wB U5:=by
 refine T.Vq.F.ok yS (fun vs H Q E h=>?_) (fun cdv A outer s H vs Q E hr h=>?_)
 ·obtain⟨c,rfl,_⟩:=h
  rfl
 obtain⟨c,rfl,c8,q⟩:=h
 refine⟨_,(zj (zJ 1 yS.nd (yK (za (yK zc) zc)))
   (zj (xJ PassesOwn.never rfl (zjr (pv 0)) (z9 (i:=2) yS.nd rfl (Or.inr rfl)) (zj (zJ 3 yS.nd (yK zc))
   (zj (xJ PassesOwn.never rfl (yh (pv 1)) (z9 (i:=4) yS.nd rfl (Or.inr rfl)) (zm (yu (uw PySem.F.plainAttrs_list PySem.F.slot_list_extend PySem.F.type_list_extend Lz (pv 3) (za (zcW (wO:=zq ZR) (js:=[4,2]) rfl (by show uZ _ _ "value" ["row", "sign"];exact Ja (by decide +kernel)) rfl (zcN (uY (za zx (za zx zc)))) (by show ∀j∈([4,2]:List Nat),j<5;decide) (fun cl C s₂ H₂ fp=>(zO (zax (K:=K) rfl) (pv 2) (yK (za zZ (za (xT zcp rfl T.zj8 zfM (za (pv 0) zc)) zc))) (by with_unfolding_all rfl))) (fun cl C s₂ H₂ fp=>(zL (zaJ rfl) (pv 1) (yK (za (pv 0) zc))))) zc)))))
   (zm (zJ 1 yS.nd (pv 3))))))
   (zm (zG (pv 1))))),?_⟩
 have p256:∀i,(cbR (c.take i)).length<=256:=fun i=>ztO (zeH _) (ztO (ztY (n:=2) (by decide) (show(c.take i).length<=8 by rw[ztQ];omega)) (by decide))
 refine⟨by show 0<=sizeLine;decide,fun q0 hq0=>⟨by show 1<=sizeLine;decide,fun l0 hl0=>?_⟩⟩
 have g0:=(Same.new hq0 (.lst [])).trans (Same.new hl0 (.lst [.ref q0]))
 have e2:=(Same.new hl0 (.lst [.ref q0])) q0 (.lst []) zf
 have fl0:H l0=none:=(Same.new hq0 _).free hl0
 refine⟨_,rfl,cbS c,rfl,zab c,?_⟩
 refine zlg (fun i σ H'=>i<=c.length/\∃(l:Addr) (es:List Addr) (f2 f3 f4:Option V),Same H H'/\H l=none/\H' l=some (.lst (es.map V.ref))/\Paired (zfV H H') es (cbR (c.take i))/\σ=[some (.str (cbS c)),some (.ref l),f2,f3,f4])
  ⟨ztP _,l0,[q0],_,_,_,g0,fl0,zf,.cons ⟨hq0,e2⟩ .nil,rfl⟩ ?_ ?_
 ·rintro i cc σ H2 hcc ⟨_,l,es,f2,f3,f4,g2,fl,hl,he,rfl⟩
  obtain⟨s0,hs,rfl⟩:=zf3 hcc
  have hi:i<c.length:=(ztv.mp hs).1
  have el:=xK he
  have lt:=p256 i
  refine⟨by show 0<=sizeLine;decide,fun lg hlg=>?_⟩
  have g3:=Same.new hlg (.lst [])
  have flg:H lg=none:=g2.free hlg
  refine⟨_,rfl,l,rfl,⟨_,zP.of (g3 _ _ hl)⟩,?_⟩
  refine wR (xs:=es.map V.ref) (fun m σ H'=>∃(us:List Addr) (f4:Option V),Same H2 H'/\H' lg=some (.lst (us.map V.ref))/\Paired (zhX lg H H') us (((cbR (c.take i)).take m).flatMap (zf7 s0))/\us.length<=2*m/\σ=[some (.str (cbS c)),some (.ref l),some (.str ⟨#[T6 s0]⟩),some (.ref lg),f4])
   ⟨[],_,g3,zf,.nil,ztP _,rfl⟩ ?_ ?_ ?_
  ·rintro m σ H' _ ⟨us,f4,g,_⟩
   exact zP.of (g _ _ hl)
  ·rintro m x σ H3 hx ⟨us,f4,g,hL0,hu,lu,rfl⟩
   rw[ztu] at hx
   cases hp:es[m]? with
   | none=>rw[hp] at hx;cases hx
   | some p =>
    rw[hp] at hx
    cases hx
    obtain⟨e,hee,fp,hpt⟩:=Xr he hp
    have hm:m<es.length:=(ztv.mp hp).1
    have hp2:=g _ _ hpt
    have eln:e.length<=8:=by
     have:=yF.vQ _ e (List.mem_filter.mp (ztx hee)).1
     rw[ztQ] at this
     omega
    refine⟨_,rfl,.inl ⟨rfl,_,zP.of hL0⟩,?_⟩
    refine⟨by show 2<=sizeLine;decide,fun tv htv=>?_⟩
    have gt:=Same.new htv (.tup [.int 0,.int 1])
    have et:upd H3 tv (.tup [.int 0,.int 1]) tv=some _:=zf
    have hLt:=gt _ _ hL0
    have zou:=gt _ _ hp2
    generalize upd H3 tv _=H4 at gt et hLt zou ⊢
    refine⟨tv,rfl,⟨_,wG.of et⟩,?_⟩
    refine zlh (xs:=[.int 0,.int 1]) (fun n ys H'=>Same H4 H'/\∃ws:List Addr,ys=ws.map V.ref/\ws.length<=n/\Paired (fun w r=>w≠lg/\H w=none/\H' w=some (.lst (zX r))) ws (([false,true].take n).flatMap fun v=>if mtS s0 v then [e++[v]] else [])) ⟨Same.refl _,[],rfl,ztP _,.nil⟩ (by decide) ?_ ?_ ?_
    ·rintro n ys H' _ ⟨g',ws,rfl,lw,_⟩
     exact⟨wG.of (g' _ _ et),by rw[zts];exact lw⟩
    ·rintro n x ys H5 Q1 Q2 hx ⟨g',ws,rfl,lw,pw⟩ h1 h2
     obtain⟨v,rfl,hv⟩:∃v:Bool,x=.int (v.toNat:Nat)/\[false,true][n]?=some v:=by
      match n,hx with
      | 0,hx=>cases hx;exact⟨false,rfl,rfl⟩
      | 1,hx=>cases hx;exact⟨true,rfl,rfl⟩
     refine⟨_,rfl,_,rfl,v,rfl,by show 2<=sizeLine;decide,fun d hd=>?_⟩
     have gd:=Same.new hd (.lst [.str "-", .str (zdj v)])
     have ed:upd H5 d (.lst [.str "-", .str (zdj v)]) d=some _:=zf
     generalize upd H5 d _=H6 at gd ed ⊢
     have gg:=g'.trans gd
     have pw6:Paired (fun w r=>w≠lg/\H w=none/\H6 w=some (.lst (zX r))) ws _:=wJ (fun _ _ z=>⟨z.1,z.2.1,gd _ _ z.2.2⟩) pw
     refine⟨d,_,rfl,.inl (zP.of ed),rfl,rfl,_,rfl,?_⟩
     rw[zeI s0 v]
     have tk:[false,true].take (n+1)=[false,true].take n++[v]:=zY hv
     cases em:mtS s0 v with
     | false =>
      refine Zi (h2 _ ⟨gg,ws,rfl,by omega,?_⟩)
      rw[tk,List.flatMap_append]
      show Paired _ ws (_++((if mtS s0 v then [e++[v]] else [])++[]))
      rw[em,List.append_nil]
      show Paired _ ws (_++[])
      rw[List.append_nil]
      exact pw6
     | true =>
      refine Xi ⟨_,rfl,_,rfl,by show 1<=sizeLine;decide,fun a0 ha0=>?_⟩
      have ka:=Same.new ha0 (.lst [.int (v.toNat:Nat)])
      refine⟨p,a0,_,_,rfl,rfl,zP.of ((gg.trans ka) _ _ zou),zP.of zf,?_,fun r0 hr0=>?_⟩
      ·unfold zX
       rw[zts]
       exact ztL (zN (by show e.length+1<=1000;omega))
      have kb:=ka.trans (Same.new hr0 (.lst (zX e++[.int (v.toNat:Nat)])))
      refine h1 _ _ ⟨gg.trans kb,ws++[r0],by rw[ztG];rfl,by rw[ztA];show ws.length+1<=n+1;omega,?_⟩
      rw[tk,List.flatMap_append]
      show Paired _ (ws++[r0]) (_++((if mtS s0 v then [e++[v]] else [])++[]))
      rw[em,List.append_nil]
      refine Vs (wJ (fun _ _ z=>⟨z.1,z.2.1,kb _ _ z.2.2⟩) pw6) (.cons ⟨?_,?_,?_⟩ .nil)
      ·exact Ne.symm (zy ((gg.trans ka) _ _ hLt) hr0)
      ·exact(g2.trans (g.trans (gt.trans (gg.trans ka)))).free hr0
      ·rw[zf];unfold zX;rw[ztG];rfl
    ·rintro ys H5 d ⟨g',ws,rfl,lw,pw⟩ hd
     have gd:=Same.new hd (.lst (ws.map V.ref))
     have kc:=gt.trans (g'.trans gd)
     have lw:ws.length<=2:=lw
     have nd:d≠lg:=Ne.symm (zy (g' _ _ hLt) hd)
     refine⟨lg,d,_,_,rfl,rfl,(g'.trans gd) _ _ hLt,zf,by rw[zts,zts];exact ztL (zN (by omega)),?_⟩
     refine⟨us++ws,_,(g.trans kc).over hlg _,by rw[zf,ztG],?_,by rw[ztA];omega,rfl⟩
     rw[zY hee,List.flatMap_append]
     refine Vs (zcl (zaG hu kc)) ?_
     have ex:([false,true].take ([V.int 0,.int 1].length)).flatMap (fun v=>if mtS s0 v then [e++[v]] else [])=[e].flatMap (zf7 s0):=by
      show(if mtS s0 false then [e++[false]] else [])++((if mtS s0 true then [e++[true]] else [])++[])=zf7 s0 e++[]
      rw[List.append_nil,List.append_nil]
      rfl
     rw[ex] at pw
     exact wJ (fun w r z=>⟨z.2.1,z.1,by rw[zB z.1];exact gd _ _ z.2.2⟩) pw
  ·rintro σ H3 ⟨us,f4,g,hL0,hu,_,rfl⟩
   rw[zts,el,ztV] at hu
   refine⟨_,rfl,hi,lg,us,_,_,_,g2.trans g,flg,hL0,?_,rfl⟩
   have et:c.take (i+1)=c.take i++[s0]:=zY hs
   rw[et,zjJ]
   exact wJ (fun _ _ r=>⟨r.1,r.2.2⟩) hu
 ·rintro σ H2 ⟨_,l,es,f2,f3,f4,g2,fl,hl,he,rfl⟩
  rw[Wm,ztV] at he
  exact⟨_,rfl,q l H2 es g2 fl hl he⟩
theorem zbP (T:Txt P w K mg a)(Lh:zE P w K mg base zW k a.uo a.ur wB (U5)):zE P w K mg base zW (k+1) a.WL a.WM ZS zaN:=by
 refine T.WY.F.ok JH (fun vs H Q E h=>?_) (fun cdv A outer s H vs Q E hr h=>?_)
 ·obtain⟨c,yl,f,rfl,_⟩:=h
  rfl
 obtain⟨c,yl,f,rfl,c8,hy,q⟩:=h
 refine⟨_,(zm (zG (zF (wV rfl) rfl T.Um Yk (za (vH (wO:=zq Ww) (js:=[1]) rfl (by show uZ _ _ "row" ["yes"];exact Ja (by decide +kernel)) rfl (yh (zp Lh hr T.Vq (za (pv 0) zc))) (by show ∀j∈([1]:List Nat),j<2;decide) (fun cl C s₂ H₂ fp=>(yV (zjm (K:=K) rfl (hu9 hr)) (pv 0) (pv 1) (by with_unfolding_all rfl)))) zc)))),?_⟩
 refine⟨_,rfl,c,rfl,c8,fun l H1 ps g1 fl hl hp=>?_⟩
 have el:=xK hp
 have zsQ:(cbR c).length<=256:=ztO (zeH _) (ztO (ztY (n:=2) (by decide) c8) (by decide))
 refine⟨l,rfl,⟨_,zP.of hl⟩,?_⟩
 refine Rf (xs:=ps.map V.ref) (fun i ys H'=>Same H1 H'/\ys=(((cbR c).take i).map fun r=>f (zu r)).map V.bl) ⟨Same.refl _,rfl⟩ (by rw[zts];exact ztL (zN (by omega))) ?_ ?_ ?_
 ·rintro i ys H' hi ⟨g,rfl⟩
  refine⟨zP.of (g _ _ hl),?_⟩
  rw[zts,zts,ztQ]
  omega
 ·rintro i x ys H' Q0 hx ⟨g,rfl⟩ hQ
  rw[ztu] at hx
  cases hpi:ps[i]? with
  | none=>rw[hpi] at hx;cases hx
  | some p =>
   rw[hpi] at hx
   cases hx
   obtain⟨r,hr',fp,hpr⟩:=Xr hp hpi
   have rl:=yF.vQ _ r (List.mem_filter.mp (ztx hr')).1
   obtain⟨ys2,hyl,hys⟩:=hy.mono (g1.trans g)
   refine⟨_,rfl,_,rfl,yl,_,_,rfl,.inl (zP.of hyl),zeB hys (zP.of (g _ _ hpr)),hQ _ _ ⟨g,?_⟩⟩
   rw[zY hr',ztG,ztG]
   refine congrArg (fun b=>_++[V.bl b]) ?_
   rw[if_neg ztw,Kh hys]
   rw[zt8,decide_eq_true_iff]
   exact zhl rl
 ·rintro ys H' p ⟨g,rfl⟩ hpn
  rw[zts,el,ztV]
  refine⟨p,_,rfl,zP.of zf,?_⟩
  rw[List.all_map]
  rw[zeK] at q
  exact q _ (g1.trans (g.trans (Same.new hpn _)))
theorem zdV (T:Txt P w K mg a)(R5:zE P w K mg base zW k a.WL a.WM ZS (zaN)):zE P w K mg base zW (k+1) a.VJ a.VL YK PJ:=by
 refine T.Pj.F.ok Rv (fun vs H Q E h=>?_) (fun cdv A outer s H vs Q E hr h=>?_)
 ·obtain⟨c,yl,f,rfl,_⟩:=h
  rfl
 obtain⟨c,yl,f,rfl,c8,hy,q⟩:=h
 refine⟨_,(zj (yr (vD (yE (zp R5 hr T.WY (za (pv 0) (za (pv 1) zc))) (fun _=>rfl))) (zm (zG wN)) zU)
   (zj (xJ PassesOwn.never rfl (Zq rfl T.Yd (za (zF Ut rfl T.yJ yc (za (pv 0) zc)) zc)) (z9 (i:=2) Rv.nd rfl (Or.inl rfl)) (zm (yr (PW.pt (ziA (zO V0 (yq zcR (pv 0) (pv 2) (fun _ _=>rfl)) zZ (zR _)) (zgF (yE (zp R5 hr T.WY (za (zL Zg (zL Zg (u6 zdm (pv 0) Xw (Zz (pv 2))) zZ) (u6 zdm (pv 0) (Zz (zL wH (pv 2) zx)) Xw)) (za (pv 1) zc))) (fun _=>rfl))))) (zm (zG wN)) zU)))
   (zm (zG wN)))),?_⟩
 have lz:(cbS c).length<=sizeLine:=by rw[wk];exact ztL (zN (by omega))
 unfold yj at q
 refine⟨_,rfl,_,rfl,c,yl,f,rfl,c8,hy,fun H1 g1=>⟨_,rfl,?_⟩⟩
 cases e:inB c.length f c with
 | false =>
  rw[e,Bool.false_and] at q
  exact Xi (q _ g1)
 | true =>
  rw[e,Bool.true_and] at q
  refine Zi ⟨_,rfl,cbS c,rfl,lz,(c.length:Int),by rw[wk],by omega,by omega,?_⟩
  rw[zt5]
  refine Zr (lo:=0) (n:=c.length) (fun i σ H'=>Same H H'/\(((NP c).filter fun j=>decide (j<i)).all fun j=>!inB c.length f (c.set j none))=true/\∃f2:Option V,σ=[some (.str (cbS c)),some (.ref yl),f2]) ⟨g1,by rw[List.filter_eq_nil_iff.mpr fun j _=>by simp];rfl,_,rfl⟩ ?_ ?_
  ·rintro i σ H2 hi ⟨g,ih,f2,rfl⟩
   have ei:(0:Int)+(i:Int)=(i:Int):=by omega
   rw[ei]
   have hs:c[i]?=some c[i]:=ztt hi
   generalize c[i]=s0 at hs
   have step:=zaL (q:=c) hs
   refine⟨_,rfl,_,rfl,cbS c,_,_,rfl,rfl,lz,vG (zdn hs),rfl,_,rfl,?_⟩
   cases s0 with
   | none =>
    refine zfX (show V.str ⟨#[45]⟩=V.str "-" by decide +kernel) (Zi ⟨g,?_,_,rfl⟩)
    rw[step]
    show((_++[]).all _)=true
    rw[List.append_nil]
    exact ih
   | some v =>
    have ne:V.str ⟨#[T6 (some v)]⟩≠V.str "-" := by cases v<;>decide +kernel
    show if (!decide (V.str ⟨#[T6 (some v)]⟩=V.str "-"))=true then _ else _
    rw[decide_eq_false ne]
    refine Xi ⟨_,rfl,_,rfl,_,rfl,cbS c,rfl,lz,?_⟩
    rw[zhi (ztL hi)]
    have l1:(cbS (c.take i)).length+(Str.ofString "-").length<=sizeLine:=by
     rw[wk,ztQ]
     exact ztL (zN (by show min i c.length+1<=1000;omega))
    refine⟨_,_,rfl,rfl,l1,?_⟩
    rw[dash,Mu]
    refine⟨_,rfl,_,rfl,_,_,rfl,rfl,_,rfl,cbS c,rfl,lz,?_⟩
    have er:(i:Int)+1=((i+1:Nat):Int):=rfl
    rw[er,zhj (by omega:i+1<=c.length)]
    refine⟨_,_,rfl,rfl,?_,?_⟩
    ·rw[wk,wk,ztA,ztQ,List.length_drop]
     exact ztL (zN (by show min i c.length+1+(c.length-(i+1))<=1000;omega))
    rw[Mu]
    have es:c.take i++[none]++c.drop (i+1)=c.set i none:=by
     rw[List.set_eq_take_append_cons_drop,if_pos hi,List.append_assoc]
     rfl
    rw[es]
    have ls:(c.set i none).length=c.length:=List.length_set
    refine⟨_,rfl,c.set i none,yl,f,rfl,by omega,by rw[ls];exact hy.mono g,fun H3 g3=>⟨_,rfl,?_⟩⟩
    rw[ls]
    cases e2:inB c.length f (c.set i none) with
    | true =>
     have:(wid c).any (inB c.length f)=true:=List.any_eq_true.mpr ⟨_,List.mem_map.mpr ⟨i,List.mem_filter.mpr ⟨List.mem_range.mpr hi,by rw[ztF,hs];rfl⟩,rfl⟩,e2⟩
     rw[this] at q
     exact Xi (q _ (g.trans g3))
    | false =>
     refine Zi ⟨g.trans g3,?_,_,rfl⟩
     rw[step,List.all_append,ih]
     show(true&&([i].all fun j=>!inB c.length f (c.set j none)))=true
     rw[List.all_cons,e2]
     rfl
  ·rintro σ H2 ⟨g,ih,f2,rfl⟩
   have ef:((NP c).filter fun j=>decide (j<c.length))=NP c:=List.filter_eq_self.mpr fun j hj=>decide_eq_true (zdo j hj)
   rw[ef] at ih
   have:(wid c).any (inB c.length f)=false:=by
    rw[List.any_eq_false]
    intro d hd
    obtain⟨j,hj,rfl⟩:=List.mem_map.mp hd
    have:=ztW.mp ih j hj
    cases e3:inB c.length f (c.set j none) with
    | false=>exact ztw
    | true=>rw[e3] at this;cases this
   rw[this] at q
   exact q _ g
theorem zgA (T:Txt P w K mg a):zE P w K mg base zW (k+1) a.Xe a.Xf Zv PN:=by
 refine T.RW.F.ok zdG (fun vs H Q E h=>?_) (fun cdv A outer s H vs Q E hr h=>?_)
 ·obtain⟨c,p,r,rfl,_⟩:=h
  rfl
 obtain⟨c,p,r,rfl,hp,lc,r8,q⟩:=h
 refine⟨_,(zm (zG (zF (wV rfl) rfl T.Um Yk (za (vH (wO:=zq Rw) (js:=[0,1]) rfl (by show uZ _ _ "k" ["cube", "row"];exact Ja (by decide +kernel)) rfl (Zq rfl T.Yd (za (zF zH rfl T.yJ yc (za (pv 1) zc)) zc)) (by show ∀j∈([0,1]:List Nat),j<2;decide) (fun cl C s₂ H₂ fp=>(yV (zax (K:=K) rfl) (yq zcR (pv 1) (pv 0) (fun _ _=>rfl)) (yK (za zZ (za (xT zcp rfl T.zj8 zfM (za (yq (zay (K:=K) rfl) (pv 2) (pv 0) (fun _ _=>rfl)) zc)) zc))) (by with_unfolding_all rfl)))) zc)))),?_⟩
 have lrv:(zX r).length=r.length:=zts _
 have lz:(cbS c).length<=sizeLine:=by rw[wk];exact ztL (zN (by omega))
 refine⟨_,rfl,p,_,rfl,.inl (zP.of hp),_,rfl,by omega,by omega,?_⟩
 rw[lrv,zt5]
 refine zk8 (n:=r.length) (fun i=>.bl (mtS (c.getD i none) (r.getD i false))) (ztL (zN (by omega))) (fun i H' Q0 hi g hQ=>?_) (fun H' l g hl=>?_)
 ·rw[Int.zero_add]
  have hs:c[i]?=some (c.getD i none):=by rw[ztF,ztt (by omega)];rfl
  have hv:r[i]?=some (r.getD i false):=by rw[ztF,ztt hi];rfl
  refine⟨_,rfl,_,rfl,cbS c,_,_,rfl,rfl,lz,vG (zdn hs),_,rfl,_,rfl,p,_,_,_,rfl,rfl,zP.of (g _ _ hp),vG (by unfold zX;rw[ztu,hv];rfl),r.getD i false,rfl,by show 2<=sizeLine;decide,fun d hd=>?_⟩
  refine⟨d,_,rfl,.inl (zP.of zf),rfl,rfl,?_⟩
  rw[if_neg ztw,zeI]
  exact hQ _ (Same.new hd _)
 ·have em:(List.range r.length).map (fun i=>V.bl (mtS (c.getD i none) (r.getD i false)))=((List.range r.length).map fun i=>mtS (c.getD i none) (r.getD i false)).map V.bl:=by rw[zt4];rfl
  rw[em]
  refine⟨l,_,rfl,zP.of zf,?_⟩
  rw[List.all_map]
  have y:=q _ (g.trans (Same.new hl (.lst (((List.range r.length).map fun i=>mtS (c.getD i none) (r.getD i false)).map V.bl))))
  rw[zlo lc] at y
  exact y
theorem zbQ (T:Txt P w K mg a)(Tw:zE P w K mg base zW k a.Z9 a.Yb uP V6)
  (R6:zE P w K mg base zW k a.Xe a.Xf Zv PN):zE P w K mg base zW (k+1) a.WQ a.WR ZV Ko:=by
 refine T.RX.F.ok TX (fun vs H Q E h=>?_) (fun cdv A outer s H vs Q E hr h=>?_)
 ·obtain⟨l,yl,n,f,ks,rfl,_⟩:=h
  rfl
 obtain⟨l,yl,n,f,ks,rfl,hl,lk,n8,l3,hy,q⟩:=h
 refine⟨_,(zj (xJ PassesOwn.never rfl (yh (zp Tw hr T.Tt (za (pv 2) zc))) (z9 (i:=3) TX.nd rfl (Or.inr rfl)) (zm (yr (zO V0 (yV zbZ (zF zH rfl T.yJ yc (za (zcW (wO:=zq Wx) (js:=[3]) rfl (by show uZ _ _ "cube" ["row"];exact Ja (by decide +kernel)) rfl (yh (pv 0)) (by show ∀j∈([3]:List Nat),j<4;decide) (fun cl C s₂ H₂ fp=>(zce (K:=K) rfl (zp R6 hr T.RW (za (pv 0) (za (pv 1) zc))) (fun _=>rfl))) (fun cl C s₂ H₂ fp=>(pv 0))) zc)) zx (zR _)) (yV (zjm (K:=K) rfl (hu9 hr)) (pv 3) (pv 1) (by with_unfolding_all rfl)) (zR _)) (zm (zG wN)) zU)))
   (zm (zG wN))),?_⟩
 rw[zh9] at q
 refine⟨_,rfl,n,rfl,n8,fun rl H1 ps g1 _ hrl pp=>?_⟩
 have lps:=xK pp
 have zpZ:(yF.allR n).length<=256:=by rw[yF.XS];exact ztO (ztY (n:=2) (by decide) n8) (by decide)
 refine⟨rl,rfl,⟨_,zP.of hrl⟩,?_⟩
 refine wR (xs:=ps.map V.ref) (fun i σ H'=>Same H1 H'/\(((yF.allR n).take i).all fun r=>(ks.any fun c=>yR c (zu r))==f (zu r))=true/\∃f3:Option V,σ=[some (.ref l),some (.ref yl),some (.int (n:Nat)),f3]) ⟨Same.refl _,rfl,_,rfl⟩ (fun i σ H' _ ⟨g,_⟩=>zP.of (g _ _ hrl)) ?_ ?_
 ·rintro i x σ H2 hx ⟨g,ih,f3,rfl⟩
  rw[ztu] at hx
  cases hpi:ps[i]? with
  | none=>rw[hpi] at hx;cases hx
  | some p =>
   rw[hpi] at hx
   cases hx
   obtain⟨r,hr',_,hpr⟩:=Xr pp hpi
   have rl':=yF.vQ _ r (ztx hr')
   have hl2:=(g1.trans g) _ _ hl
   refine⟨_,rfl,l,rfl,⟨_,zP.of hl2⟩,?_⟩
   refine zaQ (tt:=fun σ H Q=>N5 PN [] E0 (V1 (Sg 0) (V1 (Sg 1) zbu)) σ H fun x H'=>∃k,ziF K x H' k/\Q k H') cbV (fun c=>yR c (zu r)) (zP.of hl2) (wY (by omega)) (fun x H' Q h=>⟨_,rfl,h⟩) (fun c H' Q0 hc g' hQ=>?_) (fun H3 l3' g3 hl3=>?_)
   ·exact⟨_,rfl,_,rfl,c,p,r,rfl,(g.trans g') _ _ hpr,by rw[lk c hc,rl'],by omega,fun H4 g4=>⟨_,rfl,hQ _ (g'.trans g4)⟩⟩
   have g4:=Same.new hl3 (.lst ((ks.filter fun c=>yR c (zu r)).map cbV))
   have e4:upd H3 l3' (.lst ((ks.filter fun c=>yR c (zu r)).map cbV)) l3'=some _:=zf
   generalize upd H3 l3' _=H4 at g4 e4 ⊢
   have gg:=g.trans (g3.trans g4)
   obtain⟨ys2,hyl,hys⟩:=hy.mono (g1.trans gg)
   refine⟨l3',_,rfl,.inl (zP.of e4),_,_,rfl,rfl,_,rfl,_,rfl,yl,_,_,rfl,.inl (zP.of hyl),zeB hys (zP.of (gg _ _ hpr)),rfl,_,rfl,?_⟩
   have e1:decide ((0:Int)<((ks.filter fun c=>yR c (zu r)).length:Nat))=ks.any fun c=>yR c (zu r):=by
    rw[zt8,decide_eq_true_iff,List.any_eq_true]
    constructor
    ·intro z
     obtain⟨c,hc⟩:=List.exists_mem_of_length_pos (show 0<(ks.filter fun c=>yR c (zu r)).length by omega)
     exact⟨c,List.mem_filter.mp hc⟩
    ·rintro⟨c,hc⟩
     have:=List.length_pos_of_mem (List.mem_filter (p:=fun c=>yR c (zu r)).mpr hc)
     omega
   have e2:decide (r∈(yF.allR n).filter fun r=>f (zu r))=f (zu r):=by
    rw[zt8,decide_eq_true_iff]
    exact zhl rl'
   have e3:(!decide (V.bl (decide ((0:Int)<(((ks.filter fun c=>yR c (zu r)).map cbV).length:Nat)))=V.bl (if false=true then !(ys2.map V.ref).any (QT H4 r) else (ys2.map V.ref).any (QT H4 r))))=!decide ((ks.any fun c=>yR c (zu r))=f (zu r)):=by
    rw[if_neg ztw,Kh hys,zts,e1,e2]
    congr 1
    exact decide_eq_decide.mpr ⟨V.bl.inj,fun z=>by rw[z]⟩
   by_cases e:(ks.any fun c=>yR c (zu r))=f (zu r)
   ·refine ifB (e3.trans (by rw[decide_eq_true e];rfl)) ⟨gg,?_,_,rfl⟩
    rw[zY hr',List.all_append,ih,Bool.true_and]
    show((ks.any fun c=>yR c (zu r))==f (zu r)&&true)=true
    rw[e,beq_self_eq_true]
    rfl
   ·refine ifA (e3.trans (by rw[decide_eq_false e];rfl)) ?_
    have z:((yF.allR n).all fun r=>(ks.any fun c=>yR c (zu r))==f (zu r))=false:=by
     rw[Bool.eq_false_iff]
     intro z
     exact e (eq_of_beq (ztW.mp z r (ztx hr')))
    rw[z] at q
    exact q _ (g1.trans gg)
 ·rintro σ H' ⟨g,ih,f3,rfl⟩
  rw[zts,lps,ztV] at ih
  rw[ih] at q
  exact q _ (g1.trans g)
theorem zdW (T:Txt P w K mg a)
  (zbo:zE P w K mg base zW k a.WQ a.WR ZV Ko)
  (zbR:zE P w K mg base zW k a.VJ a.VL YK PJ)
  (R6:zE P w K mg base zW k a.Xe a.Xf Zv PN):zE P w K mg base zW (k+1) a.VN a.VP YM zaU:=by
 refine T.Pk.F.ok Rx (fun vs H Q E h=>?_) (fun cdv A outer s H vs Q E hr h=>?_)
 ·obtain⟨l,e,yl,n,f,ks,rows,rfl,_⟩:=h
  rfl
 obtain⟨l,e,yl,n,f,ks,rows,rfl,hl,lk,n8,l3,hy,hR,r3,r1,q⟩:=h
 refine⟨_,(zj (yr (PW.pt (Va (vD (yE (zp zbo hr T.RX (za (pv 0) (za (pv 2) (za (pv 3) zc)))) (fun _=>rfl))) (Wd (zO V0 (zF zH rfl T.yJ yc (za (pv 1) zc)) (zF zH rfl T.yJ yc (za (pv 0) zc)) (zR _))))) (zm (zG wN)) zU)
   (zj (xJ PassesOwn.never rfl (Zq rfl T.Yd (za (zF zH rfl T.yJ yc (za (pv 1) zc)) zc)) (z9 (i:=4) Rx.nd rfl (Or.inr rfl)) (zj (yr (PW.pt (Va (zO V0 (zF zH rfl T.yJ yc (za (yq yQ (pv 1) (pv 4) (fun _ _=>rfl)) zc)) (pv 3) (zR _)) (Wd (vD (yE (zF (wV rfl) rfl T.Um Yk (za (vH (wO:=zq YL) (js:=[]) rfl (by show uZ _ _ "value" [];exact Ja (by decide +kernel)) rfl (yh (yq yQ (pv 1) (pv 4) (fun _ _=>rfl))) (by show ∀j∈([]:List Nat),j<5;decide) (fun cl C s₂ H₂ fp=>(yV (zax (K:=K) rfl) (pv 0) (uY (za zx (za zx zc))) (by with_unfolding_all rfl)))) zc)) (fun _=>rfl)))))) (zm (zG wN)) zU)
   (zj (yr (vD (yE (zp zbR hr T.Pj (za (yq yQ (pv 0) (pv 4) (fun _ _=>rfl)) (za (pv 2) zc))) (fun _=>rfl))) (zm (zG wN)) zU)
   (zm (yr (zO (zjk rfl (hu8 hr)) (zcW (wO:=zq YL) (js:=[0,1,4]) rfl (by show uZ _ _ "j" ["cubes", "rows", "k"];exact Ja (by decide +kernel)) rfl (Zq rfl T.Yd (za (zF zH rfl T.yJ yc (za (pv 0) zc)) zc)) (by show ∀j∈([0,1,4]:List Nat),j<5;decide) (fun cl C s₂ H₂ fp=>(zce (K:=K) rfl (zp R6 hr T.RW (za (yq (zay (K:=K) rfl) (pv 1) (pv 0) (fun _ _=>rfl)) (za (yq (zay (K:=K) rfl) (pv 2) (pv 3) (fun _ _=>rfl)) zc))) (fun _=>rfl))) (fun cl C s₂ H₂ fp=>(pv 0))) (yK (za (pv 4) zc)) (zR _)) (zm (zG wN)) zU)))))
   (zm (zG wN)))),?_⟩
 obtain⟨ps,he,pp⟩:=id hR
 have lp:=xK pp
 refine⟨_,rfl,_,rfl,_,rfl,l,yl,n,f,ks,rfl,hl,lk,n8,l3,hy,fun H1 g1=>⟨_,rfl,?_⟩⟩
 cases ec:zaS n f ks with
 | false =>
  have q:=fun H' g=>q H' g
  unfold Mv at q
  rw[ec] at q
  exact Xi (Xi (q _ g1))
 | true =>
 refine Zi ⟨_,rfl,e,_,rfl,.inl (zP.of (g1 _ _ he)),_,rfl,l,_,rfl,.inl (zP.of (g1 _ _ hl)),rfl,_,rfl,?_⟩
 rw[zts,zts,lp]
 by_cases el:rows.length=ks.length
 rotate_left
 ·have q:=fun H' g=>q H' g
  unfold Mv at q
  rw[ec,decide_eq_false el,Bool.false_and] at q
  refine ifA ?_ (q _ g1)
  rw[decide_eq_false fun z=>el (by injection z;omega)]
  rfl
 rw[zf9 ec el] at q
 refine ifB (by rw[el,decide_eq_true rfl];rfl) ?_
 refine⟨_,rfl,e,_,rfl,.inl (zP.of (g1 _ _ he)),_,rfl,by omega,Int.lt_of_le_of_lt (show(((ps.map V.ref).length:Nat):Int)<=3000 by rw[zts];omega) (by decide),?_⟩
 rw[zts,zt5,lp,el]
 refine Zr (lo:=0) (n:=ks.length) (fun i σ H'=>Same H H'/\((List.range i).all fun i=>yU.W7 n (rows.getD i [])&&(yj n f (ks.getD i [])&&decide (((List.range ks.length).filter fun j=>yR (ks.getD j []) (zu (tD (rows.getD i []))))=[i])))=true/\∃f4:Option V,σ=[some (.ref l),some (.ref e),some (.ref yl),some (.int (n:Nat)),f4]) ⟨g1,rfl,_,rfl⟩ ?_ ?_
 ·rintro i σ H2 hi ⟨g,ih,f4,rfl⟩
  have ei:(0:Int)+(i:Int)=(i:Int):=by omega
  rw[ei]
  have no:(yU.W7 n (rows.getD i [])&&(yj n f (ks.getD i [])&&decide (((List.range ks.length).filter fun j=>yR (ks.getD j []) (zu (tD (rows.getD i []))))=[i])))=false->∀H3,Same H H3->Q (.bl false) H3:=fun z H3 g3=>by
   have y:=q H3 g3
   have:((List.range ks.length).all fun i=>yU.W7 n (rows.getD i [])&&(yj n f (ks.getD i [])&&decide (((List.range ks.length).filter fun j=>yR (ks.getD j []) (zu (tD (rows.getD i []))))=[i])))=false:=by
    rw[Bool.eq_false_iff]
    intro t
    rw[ztW] at t
    have:=t i (List.mem_range.mpr hi)
    rw[z] at this
    cases this
   rw[this] at y
   exact y
  obtain⟨c,hc⟩:∃c,ks[i]?=some c:=⟨_,ztt hi⟩
  obtain⟨p,hp⟩:∃p,ps[i]?=some p:=⟨_,ztt (by omega)⟩
  obtain⟨ns,hns,hpn⟩:=Xr pp hp
  have gc:ks.getD i []=c:=by rw[ztF,hc];rfl
  have gn:rows.getD i []=ns:=by rw[ztF,hns];rfl
  have lc:=lk c (ztx hc)
  have ln:=r1 ns (ztx hns)
  have atp:atI (ps.map V.ref) (i:Int)=some (.ref p):=vG (by rw[ztu,hp];rfl)
  have atc:atI (ks.map cbV) (i:Int)=some (cbV c):=vG (by rw[ztu,hc];rfl)
  have go:(yU.W7 n ns&&(yj n f c&&decide (((List.range ks.length).filter fun j=>yR (ks.getD j []) (zu (tD ns)))=[i])))=true->((List.range (i+1)).all fun i=>yU.W7 n (rows.getD i [])&&(yj n f (ks.getD i [])&&decide (((List.range ks.length).filter fun j=>yR (ks.getD j []) (zu (tD (rows.getD i []))))=[i])))=true:=fun z=>by
   rw[List.range_succ,List.all_append,ih,Bool.true_and]
   show(_&&true)=true
   rw[Bool.and_true]
   show(yU.W7 n (rows.getD i [])&&(yj n f (ks.getD i [])&&decide (((List.range ks.length).filter fun j=>yR (ks.getD j []) (zu (tD (rows.getD i []))))=[i])))=true
   rw[gc,gn]
   exact z
  rw[gc,gn] at no
  clear ih
  refine⟨_,rfl,_,rfl,e,_,_,_,rfl,rfl,zP.of (g _ _ he),atp,p,_,rfl,.inl (zP.of (g _ _ hpn)),_,rfl,rfl,_,rfl,?_⟩
  rw[zts]
  by_cases en:ns.length=n
  rotate_left
  ·refine ifA ?_ (Xi (no (by unfold yU.W7;rw[decide_eq_false en];rfl) _ g))
   rw[decide_eq_false fun z=>en (by injection z;omega)]
   rfl
  refine ifB (by rw[en,decide_eq_true rfl];rfl) ⟨_,rfl,_,rfl,e,_,_,_,rfl,rfl,zP.of (g _ _ he),atp,p,rfl,⟨_,zP.of (g _ _ hpn)⟩,?_⟩
  refine Qu V.int (fun y=>.bl (y==0||y==1)) (zP.of (g _ _ hpn)) (ztL (zN ln)) (fun y H' Q0 hy' g' hQ=>?_) (fun H3 l2 g3 hl2=>?_)
  ·refine⟨_,rfl,by show 2<=sizeLine;decide,fun p hp=>⟨p,_,rfl,.inr (wG.of zf),rfl,rfl,?_⟩⟩
   have e0:((0:Int)==y)=(y==0):=by rw[zt8];simp;exact eq_comm
   have e1:((1:Int)==y)=(y==1):=by rw[zt8];simp;exact eq_comm
   have ev:inV (.int y) [V.int 0,V.int 1]=(y==0||y==1):=by
    show((0==y)||((1==y)||false))=_
    rw[e0,e1,Bool.or_false]
   rw[if_neg ztw,ev]
   exact hQ _ (Same.new hp _)
  have em:ns.map (fun y=>V.bl (y==0||y==1))=(ns.map fun y=>(y==0||y==1)).map V.bl:=by rw[zt4];rfl
  rw[em]
  have g4:=g.trans (g3.trans (Same.new hl2 (.lst ((ns.map fun y=>(y==0||y==1)).map V.bl))))
  refine⟨l2,_,rfl,zP.of zf,yU.W7 n ns,?_,?_⟩
  ·unfold yU.W7
   rw[decide_eq_true en,Bool.true_and,List.all_map]
   rfl
  generalize upd H3 l2 _=H4 at g4 ⊢
  cases er:yU.W7 n ns with
  | false=>exact Xi (no (by rw[er];rfl) _ g4)
  | true =>
  refine Zi ?_
  refine⟨_,rfl,_,rfl,l,_,_,_,rfl,rfl,zP.of (g4 _ _ hl),atc,_,rfl,c,yl,f,rfl,by omega,by rw[lc];exact hy.mono g4,fun H5 g5=>⟨_,rfl,?_⟩⟩
  rw[lc]
  cases ep:yj n f c with
  | false=>exact Xi (no (by rw[er,ep];rfl) _ (g4.trans g5))
  | true =>
  have g6:=g4.trans g5
  refine Zi ⟨_,rfl,l,_,rfl,.inl (zP.of (g6 _ _ hl)),_,rfl,by omega,Int.lt_of_le_of_lt (show(((ks.map cbV).length:Nat):Int)<=3000 by rw[zts];omega) (by decide),?_⟩
  rw[zts,zt5]
  obtain⟨rv,rl⟩:=zcw er
  refine zjD (tt:=fun σ H Q=>N5 PN [] E0 (V1 (tOp (zkx K) (Sg 1) (Sg 0)) (V1 (tOp (zkx K) (Sg 2) (Sg 3)) zbu)) σ H fun x H'=>∃k,ziF K x H' k/\Q k H') (fun j=>yR (ks.getD j []) (zu (tD ns))) (wY (by omega)) (fun x H' Q h=>⟨_,rfl,h⟩) (fun j H' Q0 hj g' hQ=>?_) (fun H7 l7 g7 hl7=>?_)
  ·obtain⟨d,hd⟩:∃d,ks[j]?=some d:=⟨_,ztt hj⟩
   have gd:ks.getD j []=d:=by rw[ztF,hd];rfl
   have gg:=g6.trans g'
   rw[Int.zero_add]
   rw[gd] at hQ
   exact⟨_,rfl,_,rfl,l,_,_,_,rfl,rfl,zP.of (gg _ _ hl),vG (by rw[ztu,hd];rfl),_,rfl,_,rfl,e,_,_,_,rfl,rfl,zP.of (gg _ _ he),atp,d,p,tD ns,rfl,by rw[<-rv];exact gg _ _ hpn,by rw[rl,lk d (ztx hd)],by omega,fun H8 g8=>⟨_,rfl,hQ _ (g'.trans g8)⟩⟩
  refine⟨_,rfl,by show 1<=sizeLine;decide,fun l8 h8=>?_⟩
  have ga:=Same.new hl7 (.lst (XD ((List.range ks.length).filter fun j=>yR (ks.getD j []) (zu (tD ns)))))
  have gb:=Same.new h8 (.lst [.int (i:Nat)])
  have gl:=g6.trans (g7.trans (ga.trans gb))
  refine⟨decide (((List.range ks.length).filter fun j=>yR (ks.getD j []) (zu (tD ns)))=[i]),fun z=>absurd z.1 ztw,zjC (n:=7) (y:=[i]) (zP.of (gb _ _ zf)) (zP.of zf),_,rfl,?_⟩
  cases ee:decide (((List.range ks.length).filter fun j=>yR (ks.getD j []) (zu (tD ns)))=[i]) with
  | false=>exact Xi (no (by rw[er,ep,ee];rfl) _ gl)
  | true=>exact Zi ⟨gl,go (by rw[er,ep,ee];rfl),_,rfl⟩
 ·rintro σ H' ⟨g,ih,f4,rfl⟩
  rw[ih] at q
  exact q _ g
inductive zl7 (C:Addr)(sc:Addr)(σ:St)(H:Hp):Prop
 | mk (ol p bk yl:Addr) (os:List Str) (rs:List yF.Rm) (F:ZK) (k0:Nat) (s:Sn) (_:H ol=some (.lst (os.map V.str))) (_:Mf os) (_:zeJ H yl os.length (fun b=>s.val (xG os b))) (_:yP C H bk os rs F) (_:yF.Means rs k0 (fun r=>s.val (znZ os r))) (PS:List Str) (_:2*PS.length<=8) (_:∀x∈s.sup,x∈PS) (_:σ=[some (.ref sc),some (.ref ol),some (.ref p),some (.ref bk),some (.int (k0:Nat)),some (.ref yl),none,none,none,none,none,none]):zl7 C sc σ H
theorem ok_law (T:Txt P w K mg a)
  (wj:zE P w K mg base zW (k+1) a.xg a.xq yO (zaa K))
  (zbS:zE P w K mg base zW (k+1) a.VG a.VH YJ zc3)
  (KR:zE P w K mg base zW (k+1) a.Yw a.Yx uO (Rg K))
  (zfn:zE P w K mg base zW (k+1) a.RN a.RP Vn (zaH K))
  (JW:zE P w K mg base zW (k+1) a.Xp a.Xq Ze (Pz K))
  (zbT:zE P w K mg base zW (k+1) a.VN a.VP YM zaU)
  (zfo:zE P w K mg base zW k a.Vo a.RK Vk (Py (yP a.zA) K a.zA))
  (zdX:zE P w K mg base zW (k+1) a.Ti a.Tj XJ (zaI a.zA))
  (zlC:zE P w K mg base zW (k+1) a.zdJ a.zdK zae (za0 a.zA))
  (NK:zE P w K mg base zW (k+1) a.Tn a.Tp Wt (Qv a.zA K))
  (zbU:zE P w K mg base zW (k+1) a.VD a.VF YH (zdy a.zA)) :
  zE P w K mg base zW (k+2) a.a_law a.d_law p_law (zg1 K):=by
 refine T.f_law.F.ok sc_law (fun vs H Q E h=>?_) (fun cdv A outer s H vs Q E hr h=>?_)
 ·obtain⟨a,ns,rfl,_⟩:=h
  rfl
 obtain⟨sc,ns,rfl,hS,h63,q9⟩:=h
 have L:=uD a.zA
 refine zpD ?_
 refine zpC (zl7 a.zA sc) (fun t z=>(zj (zJ 1 sc_law.nd (zp zbS hr T.Pg (za (zp wj hr T.xr (za (pv 0) (za zx zc))) (za (yq yQ (yK (za zx (za zx zc))) (xT Lw rfl T.zfa zau (za (yV xu (zL Yh (zp wj hr T.xr (za (pv 0) (za zx zc))) zx) zx (zR _)) zc)) (fun _ _=>rfl)) zc))))
   (zj (zJ 2 sc_law.nd (zp KR hr T.Ul (za (pv 0) (za zx (za (zL wH zx (zL Yh (zp wj hr T.xr (za (pv 0) (za zx zc))) zx)) (za (pv 1) zc))))))
   (zj (zJ 3 sc_law.nd (zkt T.zlv zfo hr rfl T.zmZ T.Js.b .nil zgP (za (pv 1) zc)))
   (zj (zJ 4 sc_law.nd (u9 (pv 3) T.yH T.Ld zdX hr (za (pv 2) zc)))
   (zj (zJ 5 sc_law.nd (zp zfn hr T.Jr (za (pv 2) (za (pv 1) zc))))
   z)))))) ?_ ?_
 ·rintro u hu σ H ⟨rfl,rfl⟩
  refine⟨_,rfl,sc,ns,0,rfl,hS,by show 2<=sizeLine;decide,fun l5 hl5=>?_⟩
  have g5:=Same.new hl5 (.lst [.int 5,.int 8])
  refine⟨_,rfl,sc,ns,40,rfl,g5.seq hS,_,_,rfl,rfl,(show(0:Int)<8 by decide),rfl,.inr ⟨_,rfl,l5,_,_,.int ((if (decide (V.int (Zt ns 40%8)=V.int 1)) then 8 else 5:Nat):Int),rfl,rfl,zP.of zf,?_,Zt ns 0,(if (decide (V.int (Zt ns 40%8)=V.int 1)) then 8 else 5),rfl,?_,?_,fun ol H0 os g1' zov ho o8'=>?_⟩⟩
  ·cases (decide (V.int (Zt ns 40%8)=V.int 1))<;>rfl
  ·cases (decide (V.int (Zt ns 40%8)=V.int 1))<;>decide
  ·cases (decide (V.int (Zt ns 40%8)=V.int 1))<;>decide
  have g0:=g5.trans g1'
  clear g1' o8' g5
  have o8:=ho.le
  have hS0:=g0.seq hS
  have m0:0<=Zt ns 1%7:=zub _ (by decide)
  have m1:Zt ns 1%7<7:=zt7 _ (by decide)
  have em:(1:Int)+Zt ns 1%7=(((1+Zt ns 1%7).toNat:Nat):Int):=by omega
  refine⟨_,rfl,_,rfl,sc,ns,1,rfl,hS0,?_⟩
  refine⟨Zt ns 1,7,rfl,rfl,(show(0:Int)<7 by decide),1,_,rfl,rfl,_,rfl,sc,ol,ns,2,(1+Zt ns 1%7).toNat,os,?_,hS0,zP.of zov,ho.pos,o8,by omega,by omega,by decide,fun p1 H1 s1 g1 is1 in1 d1 ⟨PS,hPS,uPS⟩=>?_⟩
  ·show [V.ref sc,V.int 2,V.int (1+Zt ns 1%7),V.ref ol]=_
   rw[em];rfl
  have hS1:=g1.seq hS0
  have hol1:=g1 _ _ zov
  refine⟨_,rfl,fun bk dx hbk hdx hne=>⟨bk,dx,ol,os,rfl,zf,Ne.symm hne,?_,ho,fun H3 F0 keep hB hF=>⟨rfl,?_⟩⟩⟩
  ·refine zP.of ?_
   rw[zB (zy hol1 hbk),zB (zy hol1 hdx)]
   exact hol1
  have L0:=zhZ.made hbk hdx hne keep hB hF
  clear keep hF
  have is3:=is1.mono (yN.of L0.same)
  have d7:s1.depth<=7:=by omega
  have cnt:s1.count+2<=200:=by
   have h3:=Sn.zeu s1
   have h4:2^s1.depth<=2^7:=ztY (by decide) d7
   have h5:2^7=128:=rfl
   omega
  obtain⟨dx0,fs,zdT,hm⟩:=L.ins L0.bk
  refine⟨_,rfl,bk,dx0,fs,rfl,zdT,hm _ (by decide +kernel),_,rfl,bk,p1,os,_,F0,s1,rfl,L0.bk,by decide,is3,in1,by omega,by omega,fun k0 rs1 H4 aw tu hB4 gr mn hh=>?_⟩
  have L4:=L0.rise aw hB4 hh
  refine⟨_,rfl,_,rfl,p1,ol,s1,os,rfl,is3.mono tu,zP.of (L4.same _ _ hol1),in1,o8,by omega,fun yl H5 ps g5 hyl h5 h6=>?_⟩
  exact hu _ _ ⟨ol,p1,bk,yl,os,rs1,F0,k0,s1,(L4.same.trans g5) _ _ hol1,ho,⟨ps,h5,wJ (fun _ _ z=>z.2) h6⟩,L.same hB4 g5,mn,PS,by omega,uPS,rfl⟩
 refine⟨_,(zj (zJ 6 sc_law.nd zZ)
   (zj (xJ PassesOwn.never rfl (Zq rfl T.Yd (za zx zc)) (z9 (i:=7) sc_law.nd rfl (Or.inl rfl)) (zj (zJ 8 sc_law.nd (zp zlC hr T.zht (za (pv 3) (za (pv 4) zc))))
   (zj (yr (PW.pt (Va (vD (yE (zF vq rfl T.wD xP (za (pv 8) (za (W9 (v:=.ty "tuple") rfl T.zhu zeg rfl) zc))) (fun _=>rfl))) (Va (zO V0 (zF zH rfl T.yJ yc (za (pv 8) zc)) zx (zR _)) (Wd (vD (yE (zF vq rfl T.wD xP (za (yq wI (pv 8) zx (fun _ _=>rfl)) (za (W9 (v:=.ty "list") rfl T.W3 YC rfl) zc))) (fun _=>rfl))))))) (zm (zG wN)) zU)
   (zj (zmo (pv 8) (zcM rfl (Y7 (z9 (i:=10) sc_law.nd rfl (Or.inl rfl)) (Y7 (z9 (i:=11) sc_law.nd rfl (Or.inl rfl)) JX))))
   (zj (yr (PW.pt (Va (vD (yE (zF vq rfl T.wD xP (za (pv 11) (za (W9 (v:=.ty "list") rfl T.W3 YC rfl) zc))) (fun _=>rfl))) (Va (zO (zjk rfl (hu8 hr)) (pv 10) (zF (Mz rfl) rfl T.zj7 zhW (za (xT (zig rfl) rfl T.zl4 zi3 (za (pv 10) zc)) zc)) (zR _)) (Wd (zO Us (pv 6) (uY (za zZ (za (zF (Mw hr.gd (hu9 hr)) rfl T.zj6 zhh (za (pv 8) zc)) zc))) (by with_unfolding_all rfl)))))) (zm (zG wN)) zU)
   (zj (yr (vD (yE (zF (wV rfl) rfl T.Um Yk (za (vH (wO:=zq S_law) (js:=[]) rfl (by show uZ _ _ "row" [];exact Ja (by decide +kernel)) rfl (yh (pv 11)) (by show ∀j∈([]:List Nat),j<12;decide) (fun cl C s₂ H₂ fp=>(zp JW hr T.T5 (za (pv 0) (za (xT (zbA (K:=K) rfl) rfl T.W3 YC (za (pv 0) zc)) zc))))) zc)) (fun _=>rfl))) (zm (zG wN)) zU)
   (zj (yr (vD (yE (zp zbT hr T.Pk (za (pv 10) (za (pv 11) (za (pv 5) (za (zF zH rfl T.yJ yc (za (pv 1) zc)) zc))))) (fun _=>rfl))) (zm (zG wN)) zU)
   (zj (yr (zO zhf (zp NK hr T.Nt (za (pv 3) (za (pv 4) (za (pv 10) zc)))) wN (zR _)) (zm (zG wN)) zU)
   (zj (yr (zO zhf (zp zbU hr T.Pb (za (pv 3) (za (pv 4) (za (pv 10) (za (pv 11) zc))))) wN (zR _)) (zm (zG wN)) zU)
   (zj (zJ 6 sc_law.nd (zF (Mw hr.gd (hu9 hr)) rfl T.zj6 zhh (za (pv 8) zc)))
   (zj (xJ PassesOwn.never rfl (yh (pv 11)) (z9 (i:=9) sc_law.nd rfl (Or.inl rfl)) (zm (yu (uw PySem.F.plainAttrs_list PySem.F.slot_list_append PySem.F.type_list_append wU (pv 9) (za zx zc)))))
   (zj (yu (uw PySem.F.plainAttrs_list PySem.F.slot_list_append PySem.F.type_list_append wU (pv 10) (za zZ zc)))
   (zm (yu (uw PySem.F.plainAttrs_list PySem.F.slot_list_append PySem.F.type_list_append wU (pv 11) (za (yK zc) zc))))))))))))))))
   (zm (zG wN)))),?_⟩
 rintro σ B ⟨ol,p,bk,yl,os,rs,F,k0,s,hol,ho,hY,hB,mn,PS,hPS,uPS,rfl⟩
 have o8:=ho.le
 have tb:tB rs k0=fun b=>s.val (xG os b):=funext fun b=>mn.2 _
 refine⟨2,rfl,by decide,by decide,?_⟩
 refine Zr (lo:=0) (n:=2) (fun i σ H'=>∃(kp:Str) (f7 f8 f9 f10 f11:Option V),Same B H'/\(kp="" \/ ∃ks rows,zj3 os.length (tB rs k0) ks rows/\kp=shC ks (rows.map Xc))/\σ=[some (.ref sc),some (.ref ol),some (.ref p),some (.ref bk),some (.int (k0:Nat)),some (.ref yl),some (.str kp),f7,f8,f9,f10,f11]) ⟨"", _,_,_,_,_,Same.refl _,.inl rfl,rfl⟩ ?_ (fun σ H' _=>q9 _)
 rintro i σ Ht hi ⟨kp,f7,f8,f9,f10,f11,gB,hkp,rfl⟩
 refine⟨_,rfl,_,rfl,bk,os,rs,F,k0,rfl,L.same hB gB,mn.1,fun t cl rl ks ps rows H1 g1 ft fcl frl ncr ht hcl hrl pp nd cv cd=>?_⟩
 have k16:ks.length<=16:=by
  have z:=zlt cv (PI:=PS.map (ix os)) (by rw[tb];exact zj4 uPS)
  rw[zts] at z
  exact ztO z (ztY (n:=2) (j:=4) (by decide) (by omega))
 have lr:=zlq cv
 have lrk:=cv.len
 have lps:=xK pp
 have lks:∀c∈ks,c.length=os.length:=fun c hc=>(cv.mem c hc).1
 have lk8:∀c∈ks,c.length<=8:=fun c hc=>by rw[lks c hc];exact o8
 have ecl:(ks.map cbS).map V.str=ks.map cbV:=by rw[zt4];rfl
 refine⟨_,rfl,_,_,_,true,rfl,.tup ht,rfl,_,rfl,?_⟩
 refine z8 (fun z=>by cases z) (fun _=>?_)
 refine⟨_,rfl,t,_,rfl,.inr (wG.of ht),rfl,_,rfl,ifB (by show(!decide (V.int 2=V.int 2))=false;rw[decide_eq_true rfl];rfl) ?_⟩
 refine⟨_,rfl,t,_,0,_,rfl,rfl,wG.of ht,rfl,_,_,_,true,rfl,.lst hcl,rfl,_,rfl,Zi ?_⟩
 refine⟨_,rfl,t,_,rfl,wG.of ht,rfl,_,_,rfl,_,_,rfl,rfl,?_⟩
 refine⟨_,rfl,_,_,_,true,rfl,.lst hrl,rfl,_,rfl,?_⟩
 refine z8 (fun z=>by cases z) (fun _=>?_)
 refine⟨_,rfl,_,rfl,cl,ks.map cbS,rfl,zP.of (by rw[ecl];exact hcl),by rw[zts];omega,fun sq hsq=>?_⟩
 have g2:=Same.new hsq (zif P w sq (ks.map cbS))
 refine⟨sq,ks.map cbS,rfl,zf,by rw[zts];omega,fun ml ms hml pm up=>?_⟩
 have ems:=zls cv.up pm up
 subst ems
 rw[ecl]
 have g3:=g2.trans (Same.new hml (.lst (ks.map cbV)))
 have e3:upd (upd H1 sq (zif P w sq (ks.map cbS))) ml (.lst (ks.map cbV)) ml=some (.lst (ks.map cbV)):=zf
 refine⟨true,fun y=>absurd y.1 ztw,zjy (n:=7) (zP.of (g3 _ _ hcl)) (zP.of e3) (fun x hx=>by obtain⟨c,_,rfl⟩:=List.mem_map.mp hx;rfl),_,rfl,Zi ?_⟩
 generalize upd (upd H1 sq (zif P w sq (ks.map cbS))) ml (.lst (ks.map cbV))=H3 at g3
 have rI:∀{HX:Hp},Same H1 HX->Paired (fun p (ns:List Int)=>HX p=some (.lst (ns.map V.int))) ps (rows.map Xc):=fun {HX} g=>by
  refine zjB (by rw[zts];exact lps) fun j x y h1 h2=>?_
  obtain⟨r,h3,_,_,_,h4⟩:=Xr pp h1
  rw[ztu,h3] at h2
  cases h2
  rw[g _ _ h4]
  show some (HO.lst (zX r))=some (HO.lst ((Xc r).map V.int))
  unfold zX Xc
  rw[zt4]
  rfl
 have zlD:∀r∈rows.map Xc,r.length<=20/\∀i∈r,Sm i:=fun r hr=>by
  obtain⟨r0,h0,rfl⟩:=List.mem_map.mp hr
  refine⟨by unfold Xc;rw[zts,lr r0 h0];omega,fun i hi=>?_⟩
  have:=zlp r0 i hi
  unfold Sm
  omega
 refine⟨_,rfl,_,rfl,t,cl,rl,ks,ps,rows.map Xc,rfl,g3 _ _ ht,g3 _ _ hcl,g3 _ _ hrl,rI g3,by omega,lk8,by rw[zts];omega,zlD,?_⟩
 refine⟨by show 2<=sizeLine;decide,fun tp htp=>⟨tp,_,rfl,.inr (wG.of zf),rfl,rfl,_,rfl,?_⟩⟩
 have g4:=g3.trans (Same.new htp (.tup [.str "", .str (shC ks (rows.map Xc))]))
 have ein:inV (V.str kp) [.str "", .str (shC ks (rows.map Xc))]=true:=by
  show(eqV _ _||(eqV _ _||false))=true
  rcases hkp with z | ⟨ks',rows',cd',z⟩
  ·rw[z,Mq (x:=.str "") rfl];rfl
  ·obtain⟨e1,e2⟩:=cd.uniq cd'
   subst e1 e2
   rw[z,Mq (x:=.str (shC ks (rows.map Xc))) rfl]
   simp
 rw[ein]
 refine Zi ?_
 generalize upd H3 tp (.tup [.str "", .str (shC ks (rows.map Xc))])=H4 at g4
 have zow:=g4 _ _ hrl
 refine⟨_,rfl,rl,rfl,⟨_,zP.of zow⟩,?_⟩
 refine zh2 (zP.of zow) (by rw[zts];exact ztL (zN (by omega))) (fun j x H5 Q0 hx g5 hQ=>?_) (fun H5 al g5 hal=>?_)
 ·rw[ztu] at hx
  cases hv:ps[j]? with
  | none=>rw[hv] at hx;cases hx
  | some pr =>
   rw[hv] at hx
   cases hx
   obtain⟨ns',hn',hp'⟩:=Xr (rI (g4.trans g5)) hv
   have l20:=(zlD ns' (ztx hn')).1
   refine⟨_,rfl,_,rfl,pr,_,rfl,.inl (zP.of hp'),fun q hq=>?_⟩
   have gq:=Same.new hq (.lst (ns'.map V.int))
   exact⟨pr,q,ns',rfl,gq _ _ hp',zP.of zf,by omega,fun H6 g6=>hQ _ (gq.trans g6)⟩
 have gn6:=Same.new hal (.lst ((List.replicate (ps.map V.ref).length true).map V.bl))
 refine⟨al,_,rfl,zP.of zf,_,rfl,?_⟩
 rw[zh1]
 refine Zi ?_
 have g6:=g4.trans (g5.trans gn6)
 generalize upd H5 al (.lst ((List.replicate (ps.map V.ref).length true).map V.bl))=H6 at g6
 have gT:=gB.trans (g1.trans g6)
 have RI:∀{HX:Hp},Same H1 HX->zjV HX rl (rows.map Xc):=fun g=>⟨ps,g _ _ hrl,rI g⟩
 have zl8:∀ns∈rows.map Xc,ns.length<=1000:=fun r hr=>by have:=(zlD r hr).1;omega
 refine⟨_,rfl,_,rfl,_,rfl,_,rfl,ol,_,rfl,.inl (zP.of (gT _ _ hol)),cl,rl,yl,os.length,_,ks,rows.map Xc,by rw[zts];rfl,g6 _ _ hcl,lks,o8,by omega,hY.mono gT,RI g6,by rw[zts];omega,zl8,fun H7 g7=>?_⟩
 rw[<-tb,zcz cv]
 refine⟨_,rfl,Zi ?_⟩
 have g17:=g6.trans g7
 have gT7:=gB.trans (g1.trans g17)
 refine⟨_,rfl,_,rfl,_,rfl,bk,cl,os,rs,F,k0,ks,rfl,L.same hB gT7,mn.1,zP.of (g17 _ _ hcl),lks,fun H8 g8=>?_⟩
 rw[zeR cv]
 refine⟨true,true,rfl,rfl,_,rfl,Zi ?_⟩
 have g18:=g17.trans g8
 have gT8:=gB.trans (g1.trans g18)
 refine⟨_,rfl,_,rfl,_,rfl,_,rfl,bk,cl,rl,os,rs,F,k0,ks,rows.map Xc,rfl,L.same hB gT8,mn.1,g18 _ _ hcl,lks,by omega,RI g18,by rw[zts];omega,zl8,fun H9 g9=>?_⟩
 rw[zcz cv]
 refine⟨true,true,rfl,rfl,_,rfl,Zi ?_⟩
 have g19:=g18.trans g9
 refine⟨_,rfl,t,cl,rl,ks,ps,rows.map Xc,rfl,g19 _ _ ht,g19 _ _ hcl,g19 _ _ hrl,rI g19,by omega,lk8,by rw[zts];omega,zlD,?_⟩
 have gT9:=gB.trans (g1.trans g19)
 have zox:=g19 _ _ hrl
 have zqk:=g19 _ _ hcl
 have fB:∀x,Ht x=none->B x=none:=fun x e=>gB.free e
 refine⟨_,rfl,rl,rfl,⟨_,zP.of zox⟩,?_⟩
 refine wR (xs:=ps.map V.ref) (fun m σ H'=>∃f9:Option V,Same B H'/\H' rl=some (.lst (ps.map V.ref))/\H' cl=some (.lst (ks.map cbV))/\(∀(j:Nat) (pr:Addr) (r:List Bool),m<=j->ps[j]?=some pr->rows[j]?=some r->H' pr=some (.lst (zX r)))/\σ=[some (.ref sc),some (.ref ol),some (.ref p),some (.ref bk),some (.int (k0:Nat)),some (.ref yl),some (.str (shC ks (rows.map Xc))),some (.int (0+(i:Nat))),some (.ref t),f9,some (.ref cl),some (.ref rl)]) ⟨_,gT9,zox,zqk,(fun j pr r _ h1 h2=>by
  obtain⟨r',h3,_,_,_,h4⟩:=Xr pp h1
  rw[h2] at h3
  cases h3
  exact g19 _ _ h4),rfl⟩ (fun m σ H' _ ⟨_,_,h,_⟩=>zP.of h) ?_ ?_
 ·rintro m x σ H' hx ⟨f9,gb,hr2,hc2,hrw,rfl⟩
  rw[ztu] at hx
  cases hv:ps[m]? with
  | none=>rw[hv] at hx;cases hx
  | some pr =>
   rw[hv] at hx
   cases hx
   obtain⟨r,h3,fpr,n1,n2,_⟩:=Xr pp hv
   have hpr:=hrw m pr r (ztI _) hv h3
   have l8:=lr r (ztx h3)
   refine⟨_,rfl,.inl ⟨rfl,_,zP.of hpr⟩,pr,_,_,rfl,rfl,hpr,by rw[V7];exact zN (by omega),?_⟩
   refine⟨_,gb.over (fB _ fpr) _,by rw[zB (Ne.symm n2)];exact hr2,by rw[zB (Ne.symm n1)];exact hc2,(fun j pr' r' hj h1 h2=>?_),rfl⟩
   have ne:pr'≠pr:=fun e=>by
    have e1:=ztv.mp h1
    have e2:=ztv.mp hv
    have ejm:j=m:=(List.getElem?_inj e1.1 nd).mp (by rw[h1,hv,e])
    omega
   rw[zB ne]
   exact hrw j pr' r' (by omega) h1 h2
 ·rintro σ H' ⟨f9,gb,hr2,hc2,_,rfl⟩
  refine⟨_,rfl,.inl ⟨rfl,_,zP.of hc2⟩,cl,_,_,rfl,rfl,hc2,by rw[zts];exact zN (by omega),?_⟩
  have hr3:upd H' cl (.lst (ks.map cbV++[.str ""])) rl=some (.lst (ps.map V.ref)):=by rw[zB (Ne.symm ncr)];exact hr2
  have gb3:=gb.over (fB _ fcl) (.lst (ks.map cbV++[.str ""]))
  generalize upd H' cl (.lst (ks.map cbV++[.str ""]))=Ha at hr3 gb3
  refine⟨_,rfl,.inl ⟨rfl,_,zP.of hr3⟩,by show 0<=sizeLine;decide,fun el hel=>?_⟩
  have ge:=Same.new hel (.lst [])
  refine⟨rl,_,_,rfl,rfl,ge _ _ hr3,by rw[zts];exact zN (by omega),?_⟩
  exact⟨_,_,_,_,_,_,(gb3.trans ge).over (fB _ frl) _,.inr ⟨ks,rows,cd,rfl⟩,rfl⟩
theorem zlE (T:Txt P w K mg a)(base:Heap):zE P w K mg base zW 60 a.a_law a.d_law p_law (zg1 K):=by
 have cell:zE P w K mg base zW 1 a.xg a.xq yO (Ma K):=zgn (k:=0) T
 have draw:zE P w K mg base zW 1 a.Z7 a.Z8 uN zav:=zlA (k:=0) T
 have order:=zj9 (k:=1) T draw
 have sentence:=zdM (k:=1) T cell draw
 have zah:zE P w K mg base zW 2 a.vK a.vL wK uL:=zfb (k:=1) T
 have Li:zE P w K mg base zW 1 a.vB a.vC wu ux:=zdL (k:=0) T
 have flipped:=zgm (k:=1) T Li
 have zkd:zE P w K mg base zW 1 a.Ug a.Uh X3 V4:=zgp (k:=0) T
 have zlF:=zfc (k:=1) T zkd
 have lettersOf:zE P w K mg base zW 1 a.ZW a.ZX uM Y8:=zbI (k:=0) T
 have partsOf:zE P w K mg base zW 1 a.Zk a.Zm uE Yn:=zfd (k:=0) T
 have zbp:=JM (k:=1) T partsOf
 have shaped:=zdN (k:=1) T zkd lettersOf partsOf
 have zoy:=zbf (k:=2) T shaped zbp
 have zis:=KD (k:=2) T zlF
 have zlG:=QM (k:=3) T zoy
 have zke:=zdO (k:=2) T zbp
 have zit:=zbK (k:=3) T zke (lettersOf.mono (by decide))
 have zkf:zE P w K mg base zW 1 a.uQ a.uR vd (UG K):=Lf (k:=0) T
 have ziu:=Nu (k:=4) T zit (zkf.mono (by decide))
 have two:zE P w K mg base zW 2 a.uH a.uI vf zel:=JN (k:=1) T
 have table:=Ju (k:=2) T zah (Li.mono (by decide)) flipped (partsOf.mono (by decide)) two 24
 have zgB:=zgr (k:=2) T (Li.mono (by decide)) flipped
 have hangs:=zfg (k:=2) T flipped
 have first:=zbg (k:=3) T hangs
 have zkg:=W5 (k:=4) T first (zgB.mono (by decide)) 9
 have enter:=zbh (k:=26) T (zlG.mono (by decide)) (ziu.mono (by decide)) table (zkg.mono (by decide))
 have init:=zdQ (k:=3) T zis (zah.mono (by decide))
 have mbr:zE P w K mg base zW 1 a.yL a.yM yx (Yp a.zA):=R3 (k:=0) T
 have tat:zE P w K mg base zW 1 a.xZ a.wg yZ (XQ a.zA):=KJ (k:=0) T
 have zlH:zE P w K mg base zW 1 a.vM a.vN wz (uz (yP a.zA)):=zbN (k:=0) T
 have zbq:zE P w K mg base zW 1 a.X6 a.X7 Yr XR:=zgv (k:=0) T
 have Zt:zE P w K mg base zW 1 a.xg a.xq yO (zaa K):=zil (k:=0) T
 have zm5:=zfi (k:=1) T zlH
 have zfp:=JT (k:=2) T zm5
 have having:=zbk (K:=K) (k:=2) T zah (Li.mono (by decide)) (zbq.mono (by decide))
 have rowsOf:=zgw (K:=K) (k:=3) T having
 have within:=zdU (k:=4) T (mbr.mono (by decide)) (zfp.mono (by decide)) rowsOf (tat.mono (by decide)) (zbq.mono (by decide))
 have widen:zE P w K mg base zW 1 a.Qy a.Qz Ud Qs:=zgx (k:=0) T
 have prime:=zfj (k:=5) T within (widen.mono (by decide))
 have pf:=R4 (k:=3) T (zah.mono (by decide)) zgB 9
 have pr:=zio (k:=12) T (mbr.mono (by decide)) (tat.mono (by decide)) (zlH.mono (by decide)) pf
 have ofOne:=zbm (K:=K) (k:=1) T zbq
 have fv:=JR (K:=K) (k:=3) T zgB
 have fr:=zdS (K:=K) (k:=4) T fv
 have cov:=ziq (K:=K) (k:=13) T pr (rowsOf.mono (by decide)) (ofOne.mono (by decide)) (fr.mono (by decide)) (zlH.mono (by decide))
 have ziv:=KN (K:=K) (k:=3) T zfp
 have zma:=zfl (K:=K) (k:=4) T (mbr.mono (by decide)) ziv rowsOf (tat.mono (by decide))
 have zmb:zE P w K mg base zW 1 a.Z9 a.Yb uP V6:=zfh (k:=0) T
 have lval:=zcG (k:=1) (base:=base) (K:=K) T 20
 have zqn:=zgu (k:=21) T (zmb.mono (by decide)) (lval.mono (by decide))
 have lcr:zE P w K mg base zW 1 a.uo a.ur wB U5:=KQ (k:=0) T
 have lin:=zbP (k:=1) T lcr
 have lpr:=zdV (k:=2) T lin
 have QT:zE P w K mg base zW 1 a.M9 a.La Rn (J7 K):=zir (k:=0) T
 have valueAt:zE P w K mg base zW 1 a.Tc a.Td Wo (Qg K):=zfm (k:=0) T
 have shows:=zbn (K:=K) (k:=6) T (zma.mono (by decide)) prime (rowsOf.mono (by decide)) (ofOne.mono (by decide)) (zlH.mono (by decide)) (QT.mono (by decide)) (valueAt.mono (by decide))
 have has:zE P w K mg base zW 1 a.Xe a.Xf Zv PN:=zgA (k:=0) T
 have zqo:=zbQ (k:=1) T zmb has
 have lsh:=zdW (k:=3) T (zqo.mono (by decide)) lpr (has.mono (by decide))
 have whole:zE P w K mg base zW 1 a.YX a.YZ tH J6:=zka (k:=0) T
 have nums:=zdR (k:=1) (K:=K) T whole
 exact ok_law (k:=58) T (Zt.mono (by decide)) (order.mono (by decide)) (sentence.mono (by decide)) (zqn.mono (by decide)) (nums.mono (by decide)) (lsh.mono (by decide)) (init.mono (by decide)) (enter.mono (by decide)) (cov.mono (by decide)) (zma.mono (by decide)) (shows.mono (by decide))
end
end K63
namespace PySem.W.Fast
def tw7367688767173751916:Nat:=0
def tw14750248258634164071:Nat:=0
def tw2778317609258358371:Nat:=0
def tw7177124141572770591:Nat:=0
def tw16263001077590506892:Nat:=0
def tw1134299313831085126:Nat:=0
def tw2830479351654579098:Nat:=0
def tw12732188298908214842:Nat:=0
def tw12093802903799320784:Nat:=0
def tw9988514899816318245:Nat:=0
def tw4276046309748825497:Nat:=0
def tw9156020481336307242:Nat:=0
def tw17009025779548567932:Nat:=0
def tw6927609300300694241:Nat:=0
def tw10856767158535598097:Nat:=0
def tw9622273815009516430:Nat:=0
def tw15187001348902204318:Nat:=0
def tw15126629761223952017:Nat:=0
def tw5301429111789343313:Nat:=0
def tw17214546497905613656:Nat:=0
def tw10130351236363102789:Nat:=0
def tw14455520502738034557:Nat:=0
def tw5712362085373291596:Nat:=0
def tw7765040146073896853:Nat:=0
def tw1810604590694636040:Nat:=0
def tw4575844447785599612:Nat:=0
def tw1415703465731356909:Nat:=0
def tw6319213150174587976:Nat:=0
def tw17658349119186878852:Nat:=0
def tw4386924383219212330:Nat:=0
def tw8460382013349016994:Nat:=0
def tw14921410345087856204:Nat:=0
def tw18276791702470119835:Nat:=0
def tw13865847702792579434:Nat:=0
def tw16459012394372124985:Nat:=0
def tw16050215049467961405:Nat:=0
def tw17418301560090798778:Nat:=0
def tw9630126609059463552:Nat:=0
def tw18444686066698723882:Nat:=0
def tw3770909089445585025:Nat:=0
def tw5092143308132500177:Nat:=0
def tw9401890233850176036:Nat:=0
def tw15131704553374468424:Nat:=0
def tw5623612675536819724:Nat:=0
def tw6712946951067499739:Nat:=0
def tw12004118144906102031:Nat:=0
def tw15861069162099969713:Nat:=0
def tw5861923356616218218:Nat:=0
def tw9878387453892711935:Nat:=0
def tw6616368874578396738:Nat:=0
def tw8115038744001609357:Nat:=0
def tw2692692531151514263:Nat:=0
def tw15694103493579805608:Nat:=0
def tw4147638706494194353:Nat:=0
def tw13038759557529737398:Nat:=0
def tw10631800836103934076:Nat:=0
def tw3323034218606489649:Nat:=0
def tw4317719322975167588:Nat:=0
def tw11508321476332488629:Nat:=0
def tw16009663221233467981:Nat:=0
def tw8703442285271442522:Nat:=0
def tw8127824091734724210:Nat:=0
def tw14898153955510205068:Nat:=0
def tw11078351938340735143:Nat:=0
def tw17217106443144026403:Nat:=0
def tw6799943447952501389:Nat:=0
def tw10466890709760512216:Nat:=0
def tw5187889528064315698:Nat:=0
def tw11814834855710772979:Nat:=0
def tw10932217917164156975:Nat:=0
def tw3297931921167889553:Nat:=0
def tw69748158359726973:Nat:=0
def tw11043420345640090867:Nat:=0
def tw8356217501316387116:Nat:=0
def tw7115561611704110540:Nat:=0
def tw8768286824931664285:Nat:=0
def tw14575516771868634394:Nat:=0
def tw16933797004351985516:Nat:=0
def tw7860371343326232936:Nat:=0
def tw2350041363242267508:Nat:=0
def tw3695865995880785354:Nat:=0
def tw12970132247032443536:Nat:=0
def tw12975367531491713094:Nat:=0
def tw16666647896727518314:Nat:=0
def tw17718713871472313087:Nat:=0
def tw2317673514503408256:Nat:=0
def tw1479632458277841454:Nat:=0
def tw13998099080652853511:Nat:=0
def tw9466873920727968803:Nat:=0
def tw1787214811369850724:Nat:=0
def tw1285285253795808251:Nat:=0
def tw15498225011254671419:Nat:=0
def tw16883773927629585780:Nat:=0
def tw16035983391899835930:Nat:=0
def tw15317217578805352097:Nat:=0
def tw10143159066407756130:Nat:=0
def tw9572481382078935668:Nat:=0
def tw14198518247973871376:Nat:=0
def tw14520916977075449336:Nat:=0
def tw7323845623461246861:Nat:=0
def tw6043231065587317637:Nat:=0
def tw10210554409287858923:Nat:=0
def tw16837812454198472575:Nat:=0
def tw17731144686126636874:Nat:=0
def tw17778971090476722892:Nat:=0
def tw17028263831908342852:Nat:=0
def tw6022803516551927030:Nat:=0
def tw7106960658474297457:Nat:=0
def tw2821410032276790808:Nat:=0
def tw1060960566863093321:Nat:=0
def tw13579179058046917794:Nat:=0
def tw13472474266633445757:Nat:=0
def tw15184957844223270396:Nat:=0
def tw7816981592852209177:Nat:=0
def tw105487484925346703:Nat:=0
def tw206424526224762303:Nat:=0
def tw1758521319465908072:Nat:=0
def tw4141397623702202546:Nat:=0
def tw14461045549843860626:Nat:=0
def tw17175990477385097411:Nat:=0
def tw15483349087765656709:Nat:=0
def tw2690602982250766968:Nat:=0
def tw9498249720619342554:Nat:=0
def tw12261918610626988484:Nat:=0
def tw7425826083767337012:Nat:=0
def tw15787358582976974909:Nat:=0
def tw6572009150031483105:Nat:=0
def tw6770298127597355188:Nat:=0
def tw2381020622609752997:Nat:=0
def tw18158986935139612204:Nat:=0
def tw9321572206817656710:Nat:=0
def tw11198527534935985739:Nat:=0
def tw3084681679637454417:Nat:=0
def tw2089078085099691838:Nat:=0
def tw13339567335920219350:Nat:=0
def tw11174018547067448614:Nat:=0
def tw14635928941925704073:Nat:=0
def tw9600430438812981873:Nat:=0
def tw16492401187015925932:Nat:=0
def tw13125980546345947185:Nat:=0
def tw3324697960580222965:Nat:=0
def tw12404473875607158268:Nat:=0
def tw5499912108941322124:Nat:=0
def tw3246082372357304689:Nat:=0
def tw8612001652409025255:Nat:=0
def tw2547424250984805283:Nat:=0
def tw12228172921467541420:Nat:=0
def tw861751167811175689:Nat:=0
def tw91443459912664743:Nat:=0
def tw15065537114959237596:Nat:=0
def tw4484157470216011304:Nat:=0
def tw10120861422908397411:Nat:=0
def tw1743993857674694303:Nat:=0
def tw6313831814658260278:Nat:=0
def tw10551087305347469587:Nat:=0
def tw7486525224822976195:Nat:=0
def tw18431436562947582156:Nat:=0
def tw8163905256230899566:Nat:=0
def tw3728102963925408183:Nat:=0
def tw13284371053108638520:Nat:=0
def tw14554338096313673912:Nat:=0
def tw14406121775520868764:Nat:=0
def tw14640776141828458810:Nat:=0
def tw1061318485988440957:Nat:=0
def tw5649784759051209521:Nat:=0
def tw12424054403161781872:Nat:=0
def tw6312666484706928604:Nat:=0
def tw507215997594631765:Nat:=0
def tw1180576464365271421:Nat:=0
def tw1551631561616042328:Nat:=0
def tw12598139739237246682:Nat:=0
def tw1196598163974914910:Nat:=0
def tw2993813305650251806:Nat:=0
def tw10940156100704211382:Nat:=0
def tw17025785534832530274:Nat:=0
def tw3301299600158140078:Nat:=0
def tw5576418202584896824:Nat:=0
def tw2602534306774183148:Nat:=0
def tw1495445913725536448:Nat:=0
def tw11903643801887451215:Nat:=0
def tw5505189008551368774:Nat:=0
def tw13045261429850802166:Nat:=0
def tw11250762395831580101:Nat:=0
def tw1711849157101677564:Nat:=0
def tw10812488982509248145:Nat:=0
def tw17325493749779717955:Nat:=0
def tw15694827325358827449:Nat:=0
def tw8126703695689347196:Nat:=0
def tw15548476976909219848:Nat:=0
def tw6482767509937442999:Nat:=0
def tw8370488291313125692:Nat:=0
def tw3812729968141307228:Nat:=0
def tw4223488096756667922:Nat:=0
def tw13195115580841634325:Nat:=0
def tw10491714838532514126:Nat:=0
def tw4310849009593103654:Nat:=0
def tw3397639393771816327:Nat:=0
def tw93460672581859532:Nat:=0
def tw15088902360928777929:Nat:=0
def tw2737777583011500541:Nat:=0
def tw2812093542747474944:Nat:=0
def tw13474157293079527805:Nat:=0
def tw2687526017869480645:Nat:=0
def tw51792163523268376:Nat:=0
def tw5326653180315036481:Nat:=0
def tw13753152595223112105:Nat:=0
def tw15631333015014765977:Nat:=0
def tw7266263952709890038:Nat:=0
def tw17650563619704925742:Nat:=0
def tw3797551115281264973:Nat:=0
end PySem.W.Fast
open PySem PySem.W PyProof.Rows
set_option maxRecDepth 100000 in
set_option maxHeartbeats 0 in
theorem PySem.Challenge.cw_decidebook_k63_covers_told_holds : PySem.Challenge.rw_decidebook_k63_covers_told.Holds := by
  w_on;o_law;k_head;(case hw => w_witness2)
  k_fill
  refine L2.ziQ (l := PySem.Challenge.rw_decidebook_k63_covers_told) (n := 63) (k := 60) (x := "script") (CX := L2.zW) (sp := yU.zg1) rfl (by decide) rfl (by first | exact⟨rfl, by decide, by decide⟩ | exact⟨rfl, rfl, by decide, by decide⟩) (fun w h Y => PySem.W.kIn_of Y) ?F ?S ?C
  case F =>
    intro w mg fa h KX G hmg
    have T : ∃a, K63.Txt PySem.Challenge.rw_decidebook_k63_covers_told.prog w (L2.KOf KX) mg a := by
      dsimp only[L2.KOf]
      apply K63.zoh
      constructor
      (try dsimp only);apply mg_of KX G;k_is
      iterate 56 ((try dsimp only);apply L2.dfm KX G;k_is;k_is;k_is;k_is;intro _ _ _ _ _ _ us hl;first|(have z:=L2.QJ hl;subst z;rfl)|(obtain⟨_,us,e,hm⟩:=L2.Ml hl;clear hl;subst e;have hl:=hm;clear hm;first|(have z:=L2.QJ hl;subst z;rfl)|(obtain⟨_,us,e,hm⟩:=L2.Ml hl;clear hl;subst e;have hl:=hm;clear hm;first|(have z:=L2.QJ hl;subst z;rfl)|(obtain⟨_,us,e,hm⟩:=L2.Ml hl;clear hl;subst e;have hl:=hm;clear hm;first|(have z:=L2.QJ hl;subst z;rfl)|(obtain⟨_,us,e,hm⟩:=L2.Ml hl;clear hl;subst e;have hl:=hm;clear hm;first|(have z:=L2.QJ hl;subst z;rfl)|(obtain⟨_,us,e,hm⟩:=L2.Ml hl;clear hl;subst e;have hl:=hm;clear hm;first|(have z:=L2.QJ hl;subst z;rfl)|(obtain⟨_,us,e,hm⟩:=L2.Ml hl;clear hl;subst e;have hl:=hm;clear hm;first|(have z:=L2.QJ hl;subst z;rfl)|(obtain⟨_,us,e,hm⟩:=L2.Ml hl;clear hl;subst e;have hl:=hm;clear hm;(have z:=L2.QJ hl;subst z;rfl)))))))))
      iterate 10 ((try dsimp only);apply L2.dmm;k_is;k_is;k_is;k_is;k_is;intro _ _ _ _ _ _ us hl;first|(have z:=L2.QJ hl;subst z;rfl)|(obtain⟨_,us,e,hm⟩:=L2.Ml hl;clear hl;subst e;have hl:=hm;clear hm;first|(have z:=L2.QJ hl;subst z;rfl)|(obtain⟨_,us,e,hm⟩:=L2.Ml hl;clear hl;subst e;have hl:=hm;clear hm;first|(have z:=L2.QJ hl;subst z;rfl)|(obtain⟨_,us,e,hm⟩:=L2.Ml hl;clear hl;subst e;have hl:=hm;clear hm;first|(have z:=L2.QJ hl;subst z;rfl)|(obtain⟨_,us,e,hm⟩:=L2.Ml hl;clear hl;subst e;have hl:=hm;clear hm;first|(have z:=L2.QJ hl;subst z;rfl)|(obtain⟨_,us,e,hm⟩:=L2.Ml hl;clear hl;subst e;have hl:=hm;clear hm;first|(have z:=L2.QJ hl;subst z;rfl)|(obtain⟨_,us,e,hm⟩:=L2.Ml hl;clear hl;subst e;have hl:=hm;clear hm;first|(have z:=L2.QJ hl;subst z;rfl)|(obtain⟨_,us,e,hm⟩:=L2.Ml hl;clear hl;subst e;have hl:=hm;clear hm;(have z:=L2.QJ hl;subst z;rfl)))))))))
      iterate 2 ((try dsimp only);constructor;k_is;k_is;k_is;k_is)
      iterate 4 ((try dsimp only);unfold L2.Wg;k_is)
      (try dsimp only);apply mg_of KX G;k_is
      (try dsimp only);apply L2.zg2;k_is;rfl;decide
      iterate 3 ((try dsimp only);apply mg_of KX G;k_is)
      (try dsimp only);apply L2.zmL;k_is;rfl;(unfold K63.yW;decide +kernel);(unfold K63.yW;iterate 10 (apply L2.Ent.cons;k_is;rfl));apply L2.Ent.nil
      (try dsimp only);apply mg_of KX G;k_is
      (try dsimp only);apply L2.zg2;k_is;rfl;decide
      iterate 17 ((try dsimp only);apply mg_none_of KX G;k_is)
    obtain⟨a, T⟩ := T
    have e0 := hmg.symm.trans T.f_law.m
    cases e0
    exact⟨_, K63.x_law T.f_law, fun base kb nb => K63.zlE T base⟩
  case S => exact fun K H a ns hl hO hS => ⟨a, ns, rfl, hS, hl, fun _ => rfl⟩
  case C => exact fun _ _ _ _ h => h
