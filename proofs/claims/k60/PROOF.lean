import PyProof.Rows.All
import Wide.All
import OpenK.AllK
import Wide.FinOn
import Lean
import PyProof.EqAt
import PyProof.EqKinds
import PyProof.TupleCall
import KE.KRevIter
import OpenK.KOwn
import PyProof.Draws
import PyProof.EnumMake
import PyProof.StrBlockI
import PyProof.StrBlock2
import KE.KSortTup
import PySem.Challenge.RW_decidebook_k60_orders_refused_and_great
set_option Elab.async false
set_option linter.all false
set_option maxRecDepth 100000
namespace L2
open PySem PySem.Spec PyProof.Rows
abbrev Key:=Sum Int Str
def keyIs:Key→Value→Bool
  | .inl k,v=>Value.isInt k v
  | .inr x,v=>Value.isStrOf x v
def keyH (w:World):Key→Int
  | .inl k=>hashInt k
  | .inr x=>hashStr w x
theorem keyIs_shape:∀ {k:Key} {v:Value},keyIs k v = true→(∃ i t,k = Sum.inl i∧v = Value.int i t)∨(∃ x t,k = Sum.inr x∧v = Value.str x t)
  | .inl i,v,h=>by
    obtain ⟨t,e⟩:=Value.isInt_shape (k:=i) (v:=v) h
    exact .inl ⟨i,t,rfl,e⟩
  | .inr x,v,h=>by
    obtain ⟨t,e⟩:=Value.isStrOf_shape (x:=x) (v:=v) h
    exact .inr ⟨x,t,rfl,e⟩
theorem keyIs_int (i:Int) (t:Tok):keyIs (.inl i) (.int i t) = true:=by simp [keyIs,Value.isInt]
theorem keyIs_str (x:Str) (t:Tok):keyIs (.inr x) (.str x t) = true:=by simp [keyIs,Value.isStrOf]
theorem key_ll (a b:Int):decide ((Sum.inl a:Key) = Sum.inl b) = (a == b):=by
  by_cases e:a = b
  · subst e; simp
  · have h:¬ (Sum.inl a:Key) = Sum.inl b:=fun q=>e (Sum.inl.inj q)
    rw [decide_eq_false h]
    exact (beq_eq_false_iff_ne.mpr e).symm
theorem key_rr (a b:Str):decide ((Sum.inr a:Key) = Sum.inr b) = decide (a = b):=by
  by_cases e:a = b
  · subst e; simp
  · have h:¬ (Sum.inr a:Key) = Sum.inr b:=fun q=>e (Sum.inr.inj q)
    rw [decide_eq_false h,decide_eq_false e]
theorem key_lr (a:Int) (b:Str):decide ((Sum.inl a:Key) = Sum.inr b) = false:=decide_eq_false (fun q=>nomatch q)
theorem key_rl (a:Str) (b:Int):decide ((Sum.inr a:Key) = Sum.inl b) = false:=decide_eq_false (fun q=>nomatch q)
def mixKind (prog:Program) (w:World):PySem.KeyKind prog w Key where
  is:=keyIs
  hash:=keyH w
  inj:=fun v a b ha hb=>by
    rcases keyIs_shape ha with ⟨i,t,rfl,rfl⟩ | ⟨x,t,rfl,rfl⟩
    · rcases keyIs_shape hb with ⟨j,u,rfl,e⟩ | ⟨y,u,rfl,e⟩
      · injection e with e1 _; rw [e1]
      · exact nomatch e
    · rcases keyIs_shape hb with ⟨j,u,rfl,e⟩ | ⟨y,u,rfl,e⟩
      · exact nomatch e
      · injection e with e1 _; rw [e1]
  byValue:=fun k v h=>by
    rcases keyIs_shape h with ⟨i,t,rfl,rfl⟩ | ⟨x,t,rfl,rfl⟩ <;> rfl
  pyHash:=fun hv h=>by
    rcases keyIs_shape hv with ⟨i,t,rfl,rfl⟩ | ⟨x,t,rfl,rfl⟩
    · exact wpAny_pyHash_int h
    · exact wpAny_pyHash_str h
  eqBool:=fun hu hv h=>by
    rcases keyIs_shape hu with ⟨i,t,rfl,rfl⟩ | ⟨x,t,rfl,rfl⟩
    · rcases keyIs_shape hv with ⟨j,u,rfl,rfl⟩ | ⟨y,u,rfl,rfl⟩
      · rw [key_ll] at h; exact wpAny_eqBool_int h
      · rw [key_lr] at h; exact SeqAt.EqAt.int_str i t y u _ _ _ _ h
    · rcases keyIs_shape hv with ⟨j,u,rfl,rfl⟩ | ⟨y,u,rfl,rfl⟩
      · rw [key_rl] at h; exact SeqAt.EqAt.str_int x t j u _ _ _ _ h
      · rw [key_rr] at h; exact wpAny_eqBool_str h
  «strs»:=fun k x t v h=>by
    rcases keyIs_shape h with ⟨i,u,rfl,e⟩ | ⟨y,u,rfl,e⟩
    · exact nomatch e
    · injection e with e1 _
      subst e1
      cases v <;> rfl
theorem mixKind_int (prog:Program) (w:World) (i:Int) (t:Tok):(mixKind prog w).is (.inl i) (.int i t) = true:=keyIs_int i t
theorem mixKind_str (prog:Program) (w:World) (x:Str) (t:Tok):(mixKind prog w).is (.inr x) (.str x t) = true:=keyIs_str x t
end L2
namespace L2
open PySem PySem.Spec PyProof.Rows
inductive V where
  | non | bl (b:Bool) | int (i:Int) | str (x:Str) | byt (b:Array UInt8) | flt (b:UInt64) | ref (a:Addr) | ty (n:String)
  deriving DecidableEq
def RelV:V→Value→Prop
  | .non,u=>u = Value.none
  | .bl b,u=>u = Value.bool b
  | .int i,u=>∃ t,u = Value.int i t
  | .str x,u=>∃ t,u = Value.str x t
  | .byt b,u=>∃ t,u = Value.bytes b t
  | .flt b,u=>∃ t,u = Value.float b t
  | .ref a,u=>u = Value.ref a
  | .ty n,u=>u = Value.type n
abbrev Vals:List V→List Value→Prop:=Paired RelV
theorem Vals.length {xs:List V} {us:List Value} (r:Vals xs us):xs.length = us.length:=Paired.length r
theorem Vals.get:∀ {xs:List V} {us:List Value} {i:Nat} {x:V},Vals xs us→xs[i]? = some x→∃ u,us[i]? = some u∧RelV x u
  | _,_,_,_,.nil,e=>by simp at e
  | _,_,0,_,.cons r _,e=>by simp at e; subst e; exact ⟨_,rfl,r⟩
  | _,_,i + 1,x,.cons _ t,e=>by
    obtain ⟨u,h1,h2⟩:=Vals.get (i:=i) (x:=x) t (by simpa using e)
    exact ⟨u,by simpa using h1,h2⟩
theorem Vals.append:∀ {xs ys:List V} {us ws:List Value},Vals xs us→Vals ys ws→Vals (xs ++ ys) (us ++ ws)
  | _,_,_,_,.nil,s=>s
  | _,_,_,_,.cons r t,s=>.cons r (Vals.append t s)
theorem Vals.take:∀ {xs:List V} {us:List Value} (n:Nat),Vals xs us→Vals (xs.take n) (us.take n)
  | _,_,0,_=>.nil
  | _,_,_ + 1,.nil=>.nil
  | _,_,n + 1,.cons r t=>.cons r (Vals.take n t)
theorem Vals.drop:∀ {xs:List V} {us:List Value} (n:Nat),Vals xs us→Vals (xs.drop n) (us.drop n)
  | _,_,0,r=>r
  | _,_,_ + 1,.nil=>.nil
  | _,_,n + 1,.cons _ t=>Vals.drop n t
def RelO:Option V→Option Value→Prop
  | some v,some u=>RelV v u
  | none,none=>True
  | _,_=>False
def KV {κ:Type}:List (κ × V)→List (κ × Value)→Prop:=Paired fun (p:κ × V) (q:κ × Value)=>p.1 = q.1∧RelV p.2 q.2
def kV:Key→V
  | .inl i=>.int i
  | .inr x=>.str x
inductive HO where
  | lst (xs:List V)
  | tup (xs:List V)
  | dK (kvs:List (Key × V)) | dT (kvs:List (List Key × V))
  | set (S:Int→Bool) (n:Nat)
  | ins (C dx:Addr) (fs:List (Str × V))
  | own (x:Addr)
  | xd (fs:List (Str × V))
  | met (f x:Addr)
  | rng (lo hi:Int)
  | frz (o:Obj) (u:HO)
  | tbl (ps:Array Value)
  | ext (φ:Heap→Prop)
abbrev Hp:=Addr→Option HO
def upd (H:Hp) (a:Addr) (o:HO):Hp:=fun b=>if b = a then some o else H b
theorem upd_same {H:Hp} {a:Addr} {o:HO}:upd H a o a = some o:=by unfold upd; rw [if_pos rfl]
theorem upd_ne {H:Hp} {a b:Addr} {o:HO} (h:b≠a):upd H a o b = H b:=by unfold upd; rw [if_neg h]
theorem upd_upd {H:Hp} {a:Addr} {o u:HO}:upd (upd H a o) a u = upd H a u:=by
  funext b; unfold upd; split <;> rfl
theorem ne_of {H:Hp} {a b:Addr} {o u:HO} (h:H a = some o) (h':H b = some u) (d:o≠u):a≠b:=by
  intro e; subst e; rw [h] at h'; exact d (Option.some.inj h')
theorem ne_of_none {H:Hp} {a b:Addr} {o:HO} (h:H a = some o) (h':H b = none):a≠b:=by
  intro e; subst e; rw [h] at h'; cases h'
section
variable (P:Program) (w:World)
def ObjOk (H:Hp) (h:Heap) (a:Addr):HO→Prop
  | .lst xs=>xs.length≤sizeLine∧∃ (its:List Value) (n:Nat),Vals xs its∧h.get? a = some { cls:=.type "list", data:=.seq its.toArray n }
  | .tup xs=>xs.length≤sizeLine∧∃ its:List Value,Vals xs its∧IsTup h a its.toArray
  | .dK kvs=>kvs.length≤sizeLine∧(a == sysModules) = false∧∃ vs,KV kvs vs∧h.DictOf (mixKind P w) a vs
  | .dT kvs=>kvs.length≤sizeLine∧(a == sysModules) = false∧∃ xs:List (List Key × Addr × Value),
      Paired (fun (p:List Key × V) (q:List Key × Addr × Value)=>p.1 = q.1∧H q.2.1 = some (.tup (p.1.map kV))∧RelV p.2 q.2.2) kvs xs ∧
      ∃ o es ep,h.get? a = some o∧o.ExactDict∧o.data = .dict es ep∧es.toList = xs.map (entryOfKey (tupleKind (mixKind P w)))∧(xs.map (·.1)).Nodup
  | .set S n=>h.SetOf (intKind P w) a S n
  | .ins C dx fs=>H dx = some (.own a)∧fs.length≤1000∧dx≠a∧h.get? a = some (PySem.W.instObj C dx) ∧
      ∃ mA,h.Ns1 dx mA∧(∀ f,RelO (fs.lookup f) (mA f))∧PySem.Within mA (fs.map (·.1))
  | .own _=>∃ o,h.get? a = some o
  | .xd fs=>∃ mA,h.Ns1 a mA∧∀ f,RelO (fs.lookup f) (mA f)
  | .rng lo hi=>∃ t u v,h.get? a = some { cls:=.type "range", data:=.fields #[.int lo t,.int hi u,.int 1 v] }
  | .frz o u=>h.get? a = some o∧ObjOk H h a u
  /- tblFirst -/
  | .tbl ps=>∃ qs:Array Value,h.get? a = some { cls:=.none,data:=.fields qs }∧(qs = #[]∨∃ (c:Addr) (oc:Obj) (vs:Array Value) (q:Str) (t t':Tok),H c = some (.frz oc (.own a))∧qs = #[ps.getD 0 .none,ps.getD 1 .none,.ref c]∧ps[2]? = some (.str q t)∧oc.data = .fields vs∧vs[1]? = some (.str q t'))
  | .met f x=>h.get? a = some (PySem.W.methodObj (.ref f) (.ref x))
  | .ext φ=>φ h∧(∃ o,h.get? a = some o)∧∀ h1 h2:Heap,φ h1→(∀ o,h1.get? a = some o→h2.get? a = some o)→φ h2
def HOk (H:Hp) (h:Heap):Prop:=∀ a o,H a = some o→ObjOk P w H h a o
end
section
variable {P:Program} {w:World} {H H':Hp} {h h':Heap} {a:Addr} {o:HO}
theorem ObjOk.lt (x:ObjOk P w H h a o):a < h.objs.size:=by
  cases o with
  | lst xs=>obtain ⟨_,_,_,_,e⟩:=x; exact Heap.lt_size e
  | tup xs=>obtain ⟨_,_,_,p⟩:=x; exact p.lt
  | dK kvs=>obtain ⟨_,_,_,_,o,_,_,e,_⟩:=x; exact Heap.lt_size e
  | dT kvs=>obtain ⟨_,_,_,_,o,_,_,e,_⟩:=x; exact Heap.lt_size e
  | set S n=>obtain ⟨o,_,_,_,e,_⟩:=x; exact Heap.lt_size e
  | ins C dx fs=>obtain ⟨_,_,_,e,_⟩:=x; exact Heap.lt_size e
  | own y=>obtain ⟨_,e⟩:=x; exact Heap.lt_size e
  | xd fs=>obtain ⟨_,⟨_,_,_,e,_⟩,_⟩:=x; exact Heap.lt_size e
  | rng lo hi=>obtain ⟨_,_,_,e⟩:=x; exact Heap.lt_size e
  | frz ob u=>obtain ⟨e,_⟩:=x; exact Heap.lt_size e
  | tbl ps=>obtain ⟨_,e,_⟩:=x; exact Heap.lt_size e
  | met f y=>exact Heap.lt_size (show h.get? a = some _ from x)
  | ext φ=>obtain ⟨_,⟨_,e⟩,_⟩:=x; exact Heap.lt_size e
theorem Paired.mapP {α β:Type} {F G:α→β→Prop}:∀ {l₁:List α} {l₂:List β},Paired F l₁ l₂→(∀ a b,F a b→G a b)→Paired G l₁ l₂
  | _,_,.nil,_=>.nil
  | _,_,.cons r t,f=>.cons (f _ _ r) (Paired.mapP t f)
theorem ObjOk.stay (x:ObjOk P w H h a o) (k:∀ b u,(b = a∨H b = some (.own a))→h.get? b = some u→h'.get? b = some u)
    (ho:∀ b,H b = some (.own a)→H' b = some (.own a)) (ht:∀ b xs,H b = some (.tup xs)→H' b = some (.tup xs)) (hz:∀ b o u,H b = some (.frz o u)→H' b = some (.frz o u):=by exact fun _ _ _ q=>q):ObjOk P w H' h' a o:=by
  induction o with
  | lst xs=>obtain ⟨z,its,n,r,e⟩:=x; exact ⟨z,its,n,r,k _ _ (.inl rfl) e⟩
  | tup xs=>obtain ⟨z,its,r,ob,e,c⟩:=x; exact ⟨z,its,r,ob,k _ _ (.inl rfl) e,c⟩
  | dK kvs=>obtain ⟨z,y,vs,r,ob,es,ep,e,c⟩:=x; exact ⟨z,y,vs,r,ob,es,ep,k _ _ (.inl rfl) e,c⟩
  | dT kvs =>
    obtain ⟨z,y,xs,r,ob,es,ep,e,c⟩:=x
    exact ⟨z,y,xs,Paired.mapP r fun p q z=>⟨z.1,ht _ _ z.2.1,z.2.2⟩,ob,es,ep,k _ _ (.inl rfl) e,c⟩
  | set S n=>obtain ⟨ob,es,ep,t,e,c⟩:=x; exact ⟨ob,es,ep,t,k _ _ (.inl rfl) e,c⟩
  | ins C dx fs =>
    obtain ⟨d,z,ne,e,mA,⟨od,es,ep,e2,c⟩,r⟩:=x
    exact ⟨ho _ d,z,ne,k _ _ (.inl rfl) e,mA,⟨od,es,ep,k _ _ (.inr d) e2,c⟩,r⟩
  | own y=>obtain ⟨ob,e⟩:=x; exact ⟨ob,k _ _ (.inl rfl) e⟩
  | xd fs=>obtain ⟨mA,⟨od,es,ep,e,c⟩,r⟩:=x; exact ⟨mA,⟨od,es,ep,k _ _ (.inl rfl) e,c⟩,r⟩
  | rng lo hi=>obtain ⟨t,u,v,e⟩:=x; exact ⟨t,u,v,k _ _ (.inl rfl) e⟩
  | frz ob u ih=>obtain ⟨e,q⟩:=x; exact ⟨k _ _ (.inl rfl) e,ih q⟩
  | tbl ps =>
    obtain ⟨qs,e,z⟩:=x
    refine ⟨qs,k a _ (.inl rfl) e,?_⟩
    rcases z with z | ⟨c,oc,vs,q,t,t',hc,z⟩
    · exact .inl z
    · exact .inr ⟨c,oc,vs,q,t,t',hz _ _ _ hc,z⟩
  | met f y =>
    have e:h.get? a = some (PySem.W.methodObj (.ref f) (.ref y)):=x
    show h'.get? a = some (PySem.W.methodObj (.ref f) (.ref y))
    exact k a _ (.inl rfl) e
  | ext φ=>obtain ⟨p,⟨o,e⟩,st⟩:=x; exact ⟨st _ _ p fun o q=>k _ _ (.inl rfl) q,⟨o,k _ _ (.inl rfl) e⟩,st⟩
theorem HOk.lt (x:HOk P w H h) (e:H a = some o):a < h.objs.size:=(x a o e).lt
theorem HOk.fresh (x:HOk P w H h) (e:h.objs.size≤a):H a = none:=by
  cases q:H a with
  | none=>rfl
  | some u=>exact absurd (Nat.lt_of_lt_of_le (x.lt q) e) (Nat.lt_irrefl _)
theorem HOk.kept (x:HOk P w H h) (k:∀ b u,h.get? b = some u→h'.get? b = some u):HOk P w H h':=fun a o e =>
  (x a o e).stay (fun b u _ q=>k b u q) (fun _ q=>q) fun _ _ q=>q
theorem HOk.laid (x:HOk P w H h) (k:∀ b u,h.get? b = some u→h'.get? b = some u) (hp:h.objs.size≤a) (new:ObjOk P w (upd H a o) h' a o):HOk P w (upd H a o) h':=fun b u e=>by
  have hn:=x.fresh hp
  by_cases hb:b = a
  · subst hb; rw [upd_same] at e; cases e; exact new
  · rw [upd_ne hb] at e
    exact (x b u e).stay (fun c v _ q=>k c v q) (fun c q=>by rw [upd_ne (ne_of_none q hn)]; exact q) (fun c xs q=>by rw [upd_ne (ne_of_none q hn)]; exact q) fun c o u q=>by rw [upd_ne (ne_of_none q hn)]; exact q
end
def Rd (H:Hp) (a:Addr) (u:HO):Prop:=H a = some u∨∃ o,H a = some (.frz o u)
theorem Rd.ok {P:Program} {w:World} {H:Hp} {h:Heap} {a:Addr} {u:HO} (r:Rd H a u) (x:HOk P w H h):ObjOk P w H h a u:=by
  rcases r with r | ⟨o,r⟩
  · exact x a u r
  · obtain ⟨_,q⟩:=x a _ r
    exact q
def Mut:Option HO→Prop
  | some (.lst _)=>True
  | some (.dK _)=>True
  | some (.dT _)=>True
  | some (.set _ _)=>True
  | some (.ins _ _ _)=>True
  | some (.ext _)=>True
  | _=>False
section
variable {P:Program} {w:World} {H:Hp} {h h':Heap} {x e:Addr} {o':HO}
theorem HOk.write (ok:HOk P w H h) (mu:Mut (H x)) (he:e = x∨H e = some (.own x)) (k:∀ b u,b≠e→h.get? b = some u→h'.get? b = some u) (heo:∃ u,h'.get? e = some u)
    (new:ObjOk P w (upd H x o') h' x o'):HOk P w (upd H x o') h':=fun b u q=>by
  have nown:∀ c y,H c = some (.own y)→c≠x:=fun c y r z=>by subst z; rw [r] at mu; exact mu
  have ntup:∀ c xs,H c = some (.tup xs)→c≠x:=fun c xs r z=>by subst z; rw [r] at mu; exact mu
  by_cases hb:b = x
  · subst hb; rw [upd_same] at q; cases q; exact new
  · rw [upd_ne hb] at q
    by_cases hbe:b = e
    · have q':H b = some (.own x):=by
        rcases he with z | z
        · exact absurd (hbe.trans z) hb
        · rw [hbe]; exact z
      rw [q] at q'; cases q'
      obtain ⟨v,hv⟩:=heo
      exact ⟨v,by rw [hbe]; exact hv⟩
    · refine (ok b u q).stay (fun c v hc r=>k c v ?_ r) (fun c r=>by rw [upd_ne (nown c b r)]; exact r) (fun c xs r=>by rw [upd_ne (ntup c xs r)]; exact r) fun c ob xs r=>by rw [upd_ne (fun z=>by subst z; rw [r] at mu; exact mu)]; exact r
      rcases hc with rfl | hc
      · exact hbe
      · rintro rfl
        rcases he with z | z
        · exact nown c b hc z
        · rw [hc] at z; cases z; exact hb rfl
end
structure Un (fs ex:List Addr) (H H':Hp) (h h':Heap):Prop where
  keep:∀ b o,h.get? b = some o→H b = none→b ∉ fs→b ∉ ex→h'.get? b = some o
  slot:∀ b o,h.get? b = some o→H b = none→b∈fs→b ∉ ex→∃ sl,h'.get? b = some { o with slots:=sl }
  free:∀ b o,h.get? b = some o→H b = none→b ∉ ex→H' b = none
  there:∀ b o,h.get? b = some o→b ∉ ex→∃ o',h'.get? b = some o'
  tups:∀ b xs,H b = some (.tup xs)→H' b = some (.tup xs)
  frzs:∀ b o u,H b = some (.frz o u)→H' b = some (.frz o u)
  tbls:∀ b ps,H b = some (.tbl ps)→∃ more,H' b = some (.tbl (ps ++ more))
section
variable {fs fs' ex ex':List Addr} {H H1 H2:Hp} {h h1 h2 h':Heap} {a x e:Addr} {o:HO}
theorem Un.any (u:Un fs ex H H1 h h1) {b:Addr} {ob:Obj} (q:h.get? b = some ob) (n:H b = none) (hx:b ∉ ex):∃ sl,h1.get? b = some { ob with slots:=sl }:=by
  by_cases hb:b∈fs
  · exact u.slot b ob q n hb hx
  · exact ⟨ob.slots,u.keep b ob q n hb hx⟩
theorem Un.kept (k:∀ b u,h.get? b = some u→h'.get? b = some u):Un fs ex H H h h' :=
  ⟨fun b ob q _ _ _=>k b ob q,fun b ob q _ _ _=>⟨ob.slots,k b ob q⟩,fun _ _ _ n _=>n,fun b ob q _=>⟨ob,k b ob q⟩,fun _ _ q=>q,fun _ _ _ q=>q,fun _ ps q=>⟨#[],by rw [q]; simp⟩⟩
theorem Un.refl:Un fs ex H H h h:=Un.kept fun _ _ q=>q
theorem Un.laid (k:∀ b u,h.get? b = some u→h'.get? b = some u) (hp:h.objs.size≤a) (hn:H a = none):Un fs ex H (upd H a o) h h' where
  keep:=fun b u q _ _ _=>k b u q
  slot:=fun b u q _ _ _=>⟨u.slots,k b u q⟩
  free:=fun b u q n _=>by rw [upd_ne (Nat.ne_of_lt (Nat.lt_of_lt_of_le (Heap.lt_size q) hp))]; exact n
  there:=fun b u q _=>⟨u,k b u q⟩
  tups:=fun b xs q=>by rw [upd_ne (ne_of_none q hn)]; exact q
  frzs:=fun b u xs q=>by rw [upd_ne (ne_of_none q hn)]; exact q
  tbls:=fun b ps q=>⟨#[],by rw [upd_ne (ne_of_none q hn),q]; simp⟩
theorem Un.write (mu:Mut (H x)) (he:e = x∨H e = some (.own x)) (k:∀ b u,b≠e→h.get? b = some u→h'.get? b = some u) (heo:∃ u,h'.get? e = some u):Un fs ex H (upd H x o) h h':=by
  have hx:∀ b,H b = none→b≠x:=fun b n z=>by subst z; rw [n] at mu; exact mu
  have hb:∀ b,H b = none→b≠e:=fun b n z=>by
    subst z
    rcases he with r | r
    · exact hx b n r
    · rw [n] at r; cases r
  have hm:∀ b u,H b = some u→¬ Mut (some u)→b≠x:=fun b u q nm z=>by subst z; rw [q] at mu; exact nm mu
  refine ⟨fun b u q n _ _=>k b u (hb b n) q,fun b u q n _ _=>⟨u.slots,k b u (hb b n) q⟩,fun b u q n _=>by rw [upd_ne (hx b n)]; exact n,fun b u q _=>?_,
    fun b xs q=>by rw [upd_ne (hm b _ q fun z=>z)]; exact q,fun b u xs q=>by rw [upd_ne (hm b _ q fun z=>z)]; exact q,fun b ps q=>⟨#[],by rw [upd_ne (hm b _ q fun z=>z),q]; simp⟩⟩
  by_cases hbe:b = e
  · subst hbe; exact heo
  · exact ⟨u,k b u hbe q⟩
end
def trk (h:Heap) (H:Hp):List Addr:=(List.range h.objs.size).filter fun a=>(H a).isSome
def hidT (h:Heap) (H:Hp):Heap:=PySem.W.hideAll h (trk h H)
theorem hidT_size (h:Heap) (H:Hp):(hidT h H).objs.size = h.objs.size:=PySem.W.hideAll_size _ _
theorem hidT_get {h:Heap} {H:Hp} {b:Addr} {o:Obj} (e:h.get? b = some o) (n:H b = none):(hidT h H).get? b = some o :=
  PySem.W.hideAll_get _ e fun hm=>by
    have q:(H b).isSome = true:=(List.mem_filter.mp hm).2
    rw [n] at q; simp at q
theorem of_hidT {h:Heap} {H:Hp} {b:Addr} {o:Obj} (e:(hidT h H).get? b = some o):h.get? b = some o∧H b = none:=by
  have e':h.get? b = some o:=PySem.W.of_hideAll (trk h H) e
  refine ⟨e',?_⟩
  cases q:H b with
  | none=>rfl
  | some x =>
    have hm:b∈trk h H:=List.mem_filter.mpr ⟨List.mem_range.mpr (Heap.lt_size e'),by simp [q]⟩
    have z:(hidT h H).get? b = none:=PySem.W.hideAll_none (trk h H) hm
    rw [z] at e; cases e
end L2
namespace L2
open PySem PySem.Spec PyProof.Rows
structure Mod (K:PySem.W.Frag) (mg:Str→Option Value) (base:Heap):Prop where
  kin:K.In base
  glob:base.Ns mainGlobals mg
  blt:∃ mb,base.Ns builtinsNs mb∧∀ x:Str,x ≠ "__name__" → mb x = bootBuiltins x
  nolimit:base.NoLimit
structure Cx where
  prog:Program
  w:World
  K:PySem.W.Frag
  mg:Str→Option Value
  base:Heap
  A:Around
  N:List Str
  s₀:Shared
  H₀:Hp
  env:Env
  outer:List Env
  stack:List Env
  ex:List Addr
  fn:Str→Bool
  calm:Bool
  pn:List (Addr × Obj)
  xe:Value→Shared→Prop
def frs (l:List Env):List Addr:=l.filterMap (·.frame)
abbrev Cx.fs (X:Cx):List Addr:=frs X.outer
def Vis (sc:Scope) (x:Str):Prop:=sc.names.lookup x = some .local∨sc.names.lookup x = some .cell∨sc.names.lookup x = some .free
def Loc (sc:Scope) (x:Str):Prop:=sc.names.lookup x = some .local∨sc.names.lookup x = some .cell
def Look (env:Env) (h:Heap) (m:Str→Option Value) (x:Str) (u:Value):Prop :=
  (env.kindOf x = some .local∧m x = some u)∨((env.kindOf x = some .cell∨env.kindOf x = some .free)∧∃ c,env.cells.lookup x = some c∧h.IsCell c (some u))
structure Cx.Ok (X:Cx):Prop where
  mod:Mod X.K X.mg X.base
  kind:X.env.scope.kind = .function
  glob:X.env.globals = mainGlobals
  blt:X.env.builtins = builtinsNs
  above:X.s₀.heap.objs.size≤X.env.locals
  inj:∀ x y c,X.env.cells.lookup x = some c→X.env.cells.lookup y = some c→x = y
  has:∀ x,(X.env.kindOf x = some .cell∨X.env.kindOf x = some .free)→∃ c,X.env.cells.lookup x = some c
  cab:∀ x c,X.fn x = true→X.env.cells.lookup x = some c→X.s₀.heap.objs.size≤c
  hd:X.calm = true→X.A.handled = none
  frames:X.A.frames = some X.stack
  stk:X.stack = X.outer∨(X.stack = X.env :: X.outer∧X.env.frame = some X.env.locals)
  exf:∀ b∈X.ex,b≠X.env.locals∧∀ x c,X.env.cells.lookup x = some c→c≠b
  bs:∀ b o,X.base.get? b = some o→X.s₀.heap.get? b = some o∧X.H₀ b = none
  bsz:X.base.objs.size≤X.s₀.heap.objs.size
  noex:∀ b o,X.base.get? b = some o→b ∉ X.ex
  exfs:∀ b∈X.ex,b ∉ X.fs
  funs:X.s₀.heap.FunFrames X.base X.outer
  frf:∀ b∈X.fs,X.H₀ b = none
structure Inv (X:Cx) (pins:List (Addr × Obj)) (σ:List (Option V)) (H:Hp) (s:Shared):Prop where
  ok:X.Ok
  os:s.os = X.s₀.os
  bare:AllBare s.gens
  base:Un X.fs X.ex X.H₀ H X.s₀.heap s.heap
  loc:∃ m,s.heap.Ns X.env.locals m∧∀ (i:Nat) (x:Str) (v:V),X.N[i]? = some x→σ[i]? = some (some v)→Vis X.env.scope x→∃ u,RelV v u∧Look X.env s.heap m x u
  cell:∀ x c,X.env.cells.lookup x = some c→∃ v,s.heap.IsCell c v
  free:H X.env.locals = none
  freeC:∀ x c,X.env.cells.lookup x = some c→H c = none
  pin:∀ p∈X.pn ++ pins,s.heap.get? p.1 = some p.2∧H p.1 = none∧p.1≠X.env.locals∧p.1 ∉ X.fs∧∀ v,p.2.data≠.cell v
  hok:HOk X.prog X.w H s.heap
  len:σ.length = X.N.length
section
variable {X:Cx} {pins:List (Addr × Obj)} {σ:List (Option V)} {H H':Hp} {s:Shared} {h':Heap}
theorem Cx.Ok.nofr (ok:X.Ok) {b:Addr} {o:Obj} (e:X.base.get? b = some o):b ∉ X.fs:=fun hb=>by
  have:=(ok.funs.mem hb).1
  rw [e] at this; cases this
theorem Inv.bs (I:Inv X pins σ H s):∀ b o,X.base.get? b = some o→s.heap.get? b = some o∧H b = none:=fun b o e =>
  ⟨I.base.keep b o (I.ok.bs b o e).1 (I.ok.bs b o e).2 (I.ok.nofr e) (I.ok.noex b o e),I.base.free b o (I.ok.bs b o e).1 (I.ok.bs b o e).2 (I.ok.noex b o e)⟩
theorem Inv.bk (I:Inv X pins σ H s):∀ b o,X.base.get? b = some o→s.heap.get? b = some o:=fun b o e=>(I.bs b o e).1
theorem Inv.mod (I:Inv X pins σ H s):Mod X.K X.mg X.base:=I.ok.mod
theorem Inv.kIn (I:Inv X pins σ H s):X.K.In s.heap:=I.ok.mod.kin.keeps I.bk
theorem Inv.lt (I:Inv X pins σ H s):X.env.locals < s.heap.objs.size:=let ⟨_,hn,_⟩:=I.loc; hn.lt
theorem Inv.sz (I:Inv X pins σ H s):X.s₀.heap.objs.size≤s.heap.objs.size:=Nat.le_trans I.ok.above (Nat.le_of_lt I.lt)
theorem Inv.nofs (I:Inv X pins σ H s) {a:Addr} (h:s.heap.objs.size≤a):a ∉ X.fs:=fun hb=>by
  obtain ⟨_,o,ho,_⟩:=I.ok.funs.mem hb
  exact absurd (Nat.lt_of_lt_of_le (Heap.lt_size ho) (Nat.le_trans I.sz h)) (Nat.lt_irrefl _)
theorem Inv.cne (I:Inv X pins σ H s):∀ x c,X.env.cells.lookup x = some c→c≠X.env.locals:=fun x c e z=>by
  obtain ⟨v,o,ho,hd⟩:=I.cell x c e
  obtain ⟨m,⟨o',es,ep,ho',hd',_⟩,_⟩:=I.loc
  rw [z,ho'] at ho; cases ho; rw [hd'] at hd; cases hd
theorem Inv.funs (I:Inv X pins σ H s):s.heap.FunFrames X.base X.outer:=by
  have all:∀ (l:List Env),(∀ b∈frs l,b∈X.fs)→X.s₀.heap.FunFrames X.base l→s.heap.FunFrames X.base l:=by
    intro l
    induction l with
    | nil=>intro _ _; trivial
    | cons env r ih =>
      intro hs hl
      obtain ⟨hk,⟨L,o,hf,hn,ho,hd⟩,hr⟩:=hl
      have hL:L∈X.fs:=hs L (by unfold frs; rw [List.filterMap_cons,hf]; exact List.mem_cons_self)
      obtain ⟨sl,e⟩:=I.base.slot L o ho (I.ok.frf L hL) hL fun z=>I.ok.exfs L z hL
      exact ⟨hk,⟨L,_,hf,hn,e,hd⟩,ih (fun b hb=>hs b (by unfold frs; rw [List.filterMap_cons,hf]; exact List.mem_cons_of_mem _ hb)) hr⟩
  exact all X.outer (fun _ hb=>hb) I.ok.funs
theorem Inv.stack (I:Inv X pins σ H s):s.heap.FunFrames X.base X.stack:=by
  rcases I.ok.stk with e | ⟨e,hf⟩
  · rw [e]; exact I.funs
  · rw [e]
    obtain ⟨m,hn,_⟩:=I.loc
    refine .cons (by rw [I.ok.kind]; decide) hf hn ?_ I.funs
    exact Heap.get?_none_of_le (Nat.le_trans I.ok.bsz I.ok.above)
theorem Inv.stkSub (I:Inv X pins σ H s):∀ b∈frs X.stack,b∈X.env.locals :: X.fs:=fun b hb=>by
  rcases I.ok.stk with e | ⟨e,hf⟩
  · rw [e] at hb; exact List.mem_cons_of_mem _ hb
  · rw [e] at hb
    unfold frs at hb
    rw [List.filterMap_cons,hf] at hb
    exact hb
theorem Inv.stkFree (I:Inv X pins σ H s):∀ b∈frs X.stack,H b = none:=fun b hb=>by
  rcases List.mem_cons.mp (I.stkSub b hb) with e | hb
  · rw [e]; exact I.free
  · obtain ⟨_,o,ho,_⟩:=I.ok.funs.mem hb
    exact I.base.free b o ho (I.ok.frf b hb) fun z=>I.ok.exfs b z hb
theorem Inv.step {g':Array GenState} {t':Nat} {d':Drawn} {ch:List Addr} (I:Inv X pins σ H s)
    (hch:∀ b∈ch,(b∈X.ex∨X.s₀.heap.objs.size≤b)∧b≠X.env.locals∧(∀ x c,X.env.cells.lookup x = some c→c≠b)∧∀ p∈X.pn ++ pins,p.1≠b)
    (keep:∀ b o,b≠X.env.locals→b ∉ X.fs→b ∉ ch→s.heap.get? b = some o→H b = none→h'.get? b = some o)
    (slot:∀ b o,b≠X.env.locals→b∈X.fs→b ∉ ch→s.heap.get? b = some o→H b = none→∃ sl,h'.get? b = some { o with slots:=sl }) (free:∀ b o,b ∉ ch→s.heap.get? b = some o→H b = none→H' b = none)
    (there:∀ b o,b ∉ ch→s.heap.get? b = some o→∃ o',h'.get? b = some o')
    (tups:∀ b xs,H b = some (.tup xs)→H' b = some (.tup xs)) (frzs:∀ b o u,H b = some (.frz o u)→H' b = some (.frz o u)) (tbls:∀ b ps,H b = some (.tbl ps)→∃ more,H' b = some (.tbl (ps ++ more)))
    (ns:∀ m,s.heap.Ns X.env.locals m→h'.Ns X.env.locals m) (hok:HOk X.prog X.w H' h') (hg:AllBare g') :
    Inv X pins σ H' { s with heap:=h',gens:=g',drawn:=d',toks:=t' }:=by
  have neL:∀ b o,X.s₀.heap.get? b = some o→b≠X.env.locals:=fun b o e=>Nat.ne_of_lt (Nat.lt_of_lt_of_le (Heap.lt_size e) I.ok.above)
  have neC:∀ b o,X.s₀.heap.get? b = some o→b ∉ X.ex→b ∉ ch:=fun b o e hx hb=>by
    rcases (hch b hb).1 with z | z
    · exact hx z
    · exact absurd (Nat.lt_of_lt_of_le (Heap.lt_size e) z) (Nat.lt_irrefl _)
  have cellK:∀ x c,X.env.cells.lookup x = some c→∀ v,s.heap.IsCell c v→h'.IsCell c v:=fun x c e v ⟨o,ho,hd⟩=>by
    have nch:c ∉ ch:=fun z=>(hch c z).2.2.1 x c e rfl
    by_cases hc:c∈X.fs
    · obtain ⟨sl,q⟩:=slot c o (I.cne x c e) hc nch ho (I.freeC x c e)
      exact ⟨_,q,hd⟩
    · exact ⟨o,keep c o (I.cne x c e) hc nch ho (I.freeC x c e),hd⟩
  refine ⟨I.ok,I.os,hg,⟨fun b o e n hb hx=>?_,fun b o e n hb hx=>?_,fun b o e n hx=>?_,fun b o e hx=>?_,fun b xs e=>tups b xs (I.base.tups b xs e),fun b o xs e=>frzs b o xs (I.base.frzs b o xs e),fun b ps e=>?_⟩,?_,fun x c e=>?_,?_,fun x c e=>?_,fun p hp=>?_,hok,I.len⟩
  · exact keep b o (neL b o e) hb (neC b o e hx) (I.base.keep b o e n hb hx) (I.base.free b o e n hx)
  · obtain ⟨sl,e1⟩:=I.base.slot b o e n hb hx
    obtain ⟨sl',e2⟩:=slot b _ (neL b o e) hb (neC b o e hx) e1 (I.base.free b o e n hx)
    exact ⟨sl',e2⟩
  · obtain ⟨o',e1⟩:=I.base.there b o e hx
    exact free b o' (neC b o e hx) e1 (I.base.free b o e n hx)
  · obtain ⟨o',e1⟩:=I.base.there b o e hx
    exact there b o' (neC b o e hx) e1
  · obtain ⟨m1,e1⟩:=I.base.tbls b ps e
    obtain ⟨m2,e2⟩:=tbls b _ e1
    exact ⟨m1 ++ m2,by rw [e2,Array.append_assoc]⟩
  · obtain ⟨m,hn,hl⟩:=I.loc
    refine ⟨m,ns m hn,fun i x v e1 e2 e3=>?_⟩
    obtain ⟨u,r,l⟩:=hl i x v e1 e2 e3
    refine ⟨u,r,?_⟩
    rcases l with l | ⟨k,c,e,z⟩
    · exact .inl l
    · exact .inr ⟨k,c,e,cellK x c e _ z⟩
  · obtain ⟨v,z⟩:=I.cell x c e
    exact ⟨v,cellK x c e v z⟩
  · obtain ⟨m,⟨o,_,_,ho,_⟩,_⟩:=I.loc
    exact free _ o (fun z=>(hch _ z).2.1 rfl) ho I.free
  · obtain ⟨v,o,ho,hd⟩:=I.cell x c e
    exact free c o (fun z=>(hch c z).2.2.1 x c e rfl) ho (I.freeC x c e)
  · obtain ⟨e,n,ne,nf,d⟩:=I.pin p hp
    have nch:p.1 ∉ ch:=fun z=>(hch p.1 z).2.2.2 p hp rfl
    exact ⟨keep p.1 p.2 ne nf nch e n,free p.1 p.2 nch e n,ne,nf,d⟩
theorem Inv.un {t':Nat} (I:Inv X pins σ H s) (u:Un X.fs [] H H' s.heap h') (hok:HOk X.prog X.w H' h'):Inv X pins σ H' { s with heap:=h',toks:=t' }:=by
  obtain ⟨m,⟨o,es,ep,ho,r⟩,_⟩:=id I.loc
  obtain ⟨sl,hL⟩:=u.any ho I.free (by simp)
  exact I.step (g':=s.gens) (d':=s.drawn) (ch:=[]) (fun _ z=>nomatch z) (fun b o _ hb _ e n=>u.keep b o e n hb (by simp)) (fun b o _ hb _ e n=>u.slot b o e n hb (by simp)) (fun b o _ e n=>u.free b o e n (by simp)) (fun b o _ e=>u.there b o e (by simp)) u.tups u.frzs u.tbls (fun m' hm=>by
    obtain ⟨o',es',ep',ho',r'⟩:=hm
    rw [ho] at ho'; cases ho'
    exact ⟨_,es',ep',hL,r'⟩) hok I.bare
theorem Inv.call {g':Array GenState} {t':Nat} {d':Drawn} {ch:List Addr} (I:Inv X pins σ H s) (u:Un (frs X.stack) ch H H' s.heap h') (hok:HOk X.prog X.w H' h') (hg:AllBare g')
    (hch:∀ b∈ch,(b∈X.ex∨X.s₀.heap.objs.size≤b)∧b≠X.env.locals∧(∀ x c,X.env.cells.lookup x = some c→c≠b)∧∀ p∈X.pn ++ pins,p.1≠b) :
    Inv X pins σ H' { s with heap:=h',gens:=g',drawn:=d',toks:=t' }:=by
  obtain ⟨m,⟨o,es,ep,ho,r⟩,_⟩:=id I.loc
  obtain ⟨sl,hL⟩:=u.any ho I.free fun z=>(hch _ z).2.1 rfl
  exact I.step (ch:=ch) hch (fun b o hL hb hc e n=>u.keep b o e n (fun z=>(List.mem_cons.mp (I.stkSub b z)).elim hL hb) hc) (fun b o _ _ hc e n=>u.any e n hc) (fun b o hc e n=>u.free b o e n hc) (fun b o hc e=>u.there b o e hc) u.tups u.frzs u.tbls (fun m' hm=>by
    obtain ⟨o',es',ep',ho',r'⟩:=hm
    rw [ho] at ho'; cases ho'
    exact ⟨_,es',ep',hL,r'⟩) hok hg
theorem Inv.turned {t':Nat} {it:Addr} (I:Inv X pins σ H s) (k:∀ b o,b≠it→s.heap.get? b = some o→h'.get? b = some o) (hn:H it = none) (hL:it≠X.env.locals)
    (h1:it∈X.ex∨X.s₀.heap.objs.size≤it) (h2:∀ x c,X.env.cells.lookup x = some c→c≠it) (h3:∀ p∈X.pn ++ pins,p.1≠it):Inv X pins σ H { s with heap:=h',toks:=t' }:=by
  have nit:∀ b u,H b = some u→b≠it:=fun b u e z=>by rw [z,hn] at e; cases e
  refine I.step (g':=s.gens) (d':=s.drawn) (ch:=[it]) (fun b hb=>?_) (fun b o _ _ hc e _=>k b o (fun z=>hc (by simp [z])) e) (fun b o _ _ hc e _=>⟨o.slots,k b o (fun z=>hc (by simp [z])) e⟩) (fun _ _ _ _ n=>n)
    (fun b o hc e=>⟨o,k b o (fun z=>hc (by simp [z])) e⟩) (fun _ _ e=>e) (fun _ _ _ e=>e) (fun b ps e=>⟨#[],by rw [e]; simp⟩) (fun m hm=>?_) (fun b u e=>?_) I.bare
  · have e:b = it:=by simpa using hb
    subst e
    exact ⟨h1,hL,h2,h3⟩
  · obtain ⟨o,es,ep,ho,r⟩:=hm
    exact ⟨o,es,ep,k _ o (Ne.symm hL) ho,r⟩
  · refine (I.hok b u e).stay (fun c v hc q=>k c v ?_ q) (fun _ q=>q) fun _ _ q=>q
    rcases hc with z | z
    · rw [z]; exact nit b u e
    · exact nit c _ z
theorem Inv.tok (I:Inv X pins σ H s) (t:Nat):Inv X pins σ H { s with toks:=t }:=I.un (h':=s.heap) (t':=t) Un.refl I.hok
theorem Inv.kept {t':Nat} (I:Inv X pins σ H s) (k:∀ b u,s.heap.get? b = some u→h'.get? b = some u):Inv X pins σ H { s with heap:=h',toks:=t' }:=I.un (Un.kept k) (I.hok.kept k)
theorem Inv.laid {a:Addr} {o:HO} {t':Nat} (I:Inv X pins σ H s) (k:∀ b u,s.heap.get? b = some u→h'.get? b = some u) (hp:s.heap.objs.size≤a) (new:ObjOk X.prog X.w (upd H a o) h' a o) :
    Inv X pins σ (upd H a o) { s with heap:=h',toks:=t' }:=I.un (Un.laid k hp (I.hok.fresh hp)) (I.hok.laid k hp new)
theorem Inv.write {x e:Addr} {o:HO} {t':Nat} (I:Inv X pins σ H s) (mu:Mut (H x)) (he:e = x∨H e = some (.own x)) (k:∀ b u,b≠e→s.heap.get? b = some u→h'.get? b = some u) (heo:∃ u,h'.get? e = some u)
    (new:ObjOk X.prog X.w (upd H x o) h' x o):Inv X pins σ (upd H x o) { s with heap:=h',toks:=t' }:=I.un (Un.write mu he k heo) (I.hok.write mu he k heo new)
theorem Inv.pins_of {pins':List (Addr × Obj)} (I:Inv X pins σ H s) (h:∀ p∈pins',s.heap.get? p.1 = some p.2∧H p.1 = none∧p.1≠X.env.locals∧p.1 ∉ X.fs∧∀ v,p.2.data≠.cell v):Inv X pins' σ H s :=
  ⟨I.ok,I.os,I.bare,I.base,I.loc,I.cell,I.free,I.freeC,fun p hp=>(List.mem_append.mp hp).elim (fun z=>I.pin p (List.mem_append_left _ z)) (h p),I.hok,I.len⟩
theorem nodup_ix {N:List Str} (hN:N.Nodup) {i j:Nat} {x:Str} (a:N[i]? = some x) (b:N[j]? = some x):i = j:=by
  obtain ⟨h1,e1⟩:=List.getElem?_eq_some_iff.mp a
  obtain ⟨h2,e2⟩:=List.getElem?_eq_some_iff.mp b
  exact (List.getElem_inj hN).mp (e1.trans e2.symm)
theorem store_ok2 {M:Model} {A:Around} {E:Value→Shared→Prop} {i:Nat} {x:Str} {v:V} {u:Value} {Q:Unit→Shared→Prop} (I:Inv X pins σ H s) (hN:X.N.Nodup) (hi:X.N[i]? = some x) (hx:Loc X.env.scope x) (r:RelV v u)
    (h:∀ s',Inv X pins (σ.set i (some v)) H s'→(∃ a,Heap.SameBut a s.heap s'.heap∧(a = X.env.locals∨X.env.cells.lookup x = some a))→Q () s') (hf:X.fn x = true∨X.env.scope.names.lookup x = some .local:=by first | exact .inl rfl | exact .inr rfl | assumption):wpAny M A (storeName X.env x u) Q E s:=by
  obtain ⟨m,hn,hl⟩:=id I.loc
  have hcls:(X.env.scope.kind == .class || (X.env.scope.kind == .module && X.env.locals != X.env.globals)) = false:=by rw [I.ok.kind]; rfl
  have hiσ:i < σ.length:=by rw [I.len]; exact (List.getElem?_eq_some_iff.mp hi).1
  have cne:=I.cne
  have tracked:∀ {a:Addr} {h':Heap},(∃ o,s.heap.get? a = some o∧H a = none)→Heap.SameBut a s.heap h'→HOk X.prog X.w H h':=fun {a h'} ha hs b ob e=>by
    obtain ⟨_,_,hfree⟩:=ha
    refine (I.hok b ob e).stay (fun c w' hc q=>(hs.2 c ?_).trans q) (fun _ q=>q) fun _ _ q=>q
    rintro rfl
    rcases hc with rfl | hc
    · rw [hfree] at e; cases e
    · rw [hfree] at hc; cases hc
  rcases hx with hk | hk
  · refine wpAny_storeName_local hk hn (fun h' hn' hs=>?_) hcls
    obtain ⟨oL,_,_,hoL,_⟩:=id hn
    refine h _ ⟨I.ok,I.os,I.bare,⟨fun b o e n hb hx=>?_,fun b o e n hb hx=>?_,I.base.free,fun b o e hx=>?_,I.base.tups,I.base.frzs,I.base.tbls⟩,⟨_,hn',fun j y v' e1 e2 e3=>?_⟩,fun y c e=>?_,I.free,I.freeC,fun p hp=>?_,tracked ⟨oL,hoL,I.free⟩ hs,by simpa using I.len⟩ ⟨_,hs,.inl rfl⟩
    · exact (hs.2 b (Nat.ne_of_lt (Nat.lt_of_lt_of_le (Heap.lt_size e) I.ok.above))).trans (I.base.keep b o e n hb hx)
    · obtain ⟨sl,e1⟩:=I.base.slot b o e n hb hx
      exact ⟨sl,(hs.2 b (Nat.ne_of_lt (Nat.lt_of_lt_of_le (Heap.lt_size e) I.ok.above))).trans e1⟩
    · obtain ⟨o',e1⟩:=I.base.there b o e hx
      exact ⟨o',(hs.2 b (Nat.ne_of_lt (Nat.lt_of_lt_of_le (Heap.lt_size e) I.ok.above))).trans e1⟩
    · by_cases hj:j = i
      · subst hj
        rw [hi] at e1; cases e1
        rw [List.getElem?_set_self hiσ] at e2
        cases e2
        exact ⟨u,r,.inl ⟨hk,by simp⟩⟩
      · rw [List.getElem?_set_ne (Ne.symm hj)] at e2
        obtain ⟨u',r',q⟩:=hl j y v' e1 e2 e3
        refine ⟨u',r',?_⟩
        rcases q with ⟨k,e⟩ | ⟨k,c,e,z⟩
        · refine .inl ⟨k,?_⟩
          have:y≠x:=fun e=>hj (nodup_ix hN e1 (e ▸ hi))
          simp [this,e]
        · exact .inr ⟨k,c,e,z.sameBut hs (cne y c e)⟩
    · obtain ⟨w',z⟩:=I.cell y c e
      exact ⟨w',z.sameBut hs (cne y c e)⟩
    · obtain ⟨e,n,ne,nf,d⟩:=I.pin p hp
      exact ⟨(hs.2 p.1 ne).trans e,n,ne,nf,d⟩
  · have hfn:X.fn x = true:=by
      rcases hf with z | z
      · exact z
      · rw [z] at hk; cases hk
    obtain ⟨c,hc⟩:=I.ok.has x (.inl hk)
    obtain ⟨w',z⟩:=I.cell x c hc
    refine wpAny_storeName_cell I.ok.kind hk hc z (fun h' hc' hs=>?_)
    obtain ⟨oc,hoc,hocd⟩:=id z
    refine h { s with heap:=h' } ⟨I.ok,I.os,I.bare,⟨fun b o e n hb hx=>?_,fun b o e n hb hx=>?_,I.base.free,fun b o e hx=>?_,I.base.tups,I.base.frzs,I.base.tbls⟩,⟨m,hn.sameBut hs (Ne.symm (cne x c hc)),fun j y v' e1 e2 e3=>?_⟩,fun y c' e=>?_,I.free,I.freeC,fun p hp=>?_,tracked ⟨oc,hoc,I.freeC x c hc⟩ hs,by simpa using I.len⟩ ⟨c,hs,.inr hc⟩
    · exact (hs.2 b (Nat.ne_of_lt (Nat.lt_of_lt_of_le (Heap.lt_size e) (I.ok.cab x c hfn hc)))).trans (I.base.keep b o e n hb hx)
    · obtain ⟨sl,e1⟩:=I.base.slot b o e n hb hx
      exact ⟨sl,(hs.2 b (Nat.ne_of_lt (Nat.lt_of_lt_of_le (Heap.lt_size e) (I.ok.cab x c hfn hc)))).trans e1⟩
    · obtain ⟨o',e1⟩:=I.base.there b o e hx
      exact ⟨o',(hs.2 b (Nat.ne_of_lt (Nat.lt_of_lt_of_le (Heap.lt_size e) (I.ok.cab x c hfn hc)))).trans e1⟩
    · by_cases hj:j = i
      · subst hj
        rw [hi] at e1; cases e1
        rw [List.getElem?_set_self hiσ] at e2
        cases e2
        exact ⟨u,r,.inr ⟨.inl hk,c,hc,hc'⟩⟩
      · rw [List.getElem?_set_ne (Ne.symm hj)] at e2
        obtain ⟨u',r',q⟩:=hl j y v' e1 e2 e3
        refine ⟨u',r',?_⟩
        rcases q with q | ⟨k,c',e,z'⟩
        · exact .inl q
        · refine .inr ⟨k,c',e,z'.sameBut hs ?_⟩
          rintro rfl
          exact hj (nodup_ix hN e1 (I.ok.inj _ _ _ e hc ▸ hi))
    · by_cases hcc:c' = c
      · subst hcc; exact ⟨_,hc'⟩
      · obtain ⟨w2,z2⟩:=I.cell y c' e
        exact ⟨w2,z2.sameBut hs hcc⟩
    · obtain ⟨e,n,ne,nf,d⟩:=I.pin p hp
      refine ⟨(hs.2 p.1 ?_).trans e,n,ne,nf,d⟩
      intro q
      rw [q,hoc] at e
      have q':oc = p.2:=Option.some.inj e
      exact d w' (by rw [← q']; exact hocd)
theorem store_ok {M:Model} {A:Around} {E:Value→Shared→Prop} {i:Nat} {x:Str} {v:V} {u:Value} {Q:Unit→Shared→Prop} (I:Inv X pins σ H s) (hN:X.N.Nodup) (hi:X.N[i]? = some x) (hx:Loc X.env.scope x) (r:RelV v u)
    (h:∀ s',Inv X pins (σ.set i (some v)) H s'→Q () s') (hf:X.fn x = true∨X.env.scope.names.lookup x = some .local:=by first | exact .inl rfl | exact .inr rfl | assumption):wpAny M A (storeName X.env x u) Q E s :=
  store_ok2 I hN hi hx r (fun s' I' _=>h s' I') hf
theorem Inv.call' {s':Shared} {ch:List Addr} (I:Inv X pins σ H s) (ho:s'.os = s.os) (u:Un (frs X.stack) ch H H' s.heap s'.heap) (hok:HOk X.prog X.w H' s'.heap) (hg:AllBare s'.gens)
    (hch:∀ b∈ch,(b∈X.ex∨X.s₀.heap.objs.size≤b)∧b≠X.env.locals∧(∀ x c,X.env.cells.lookup x = some c→c≠b)∧∀ p∈X.pn ++ pins,p.1≠b):Inv X pins σ H' s':=by
  obtain ⟨h',g',d',t',o'⟩:=s'
  have e:o' = s.os:=ho
  subst e
  exact I.call (g':=g') (t':=t') (d':=d') u hok hg hch
end
abbrev XK:=Value→Option Addr→Hp→Prop
abbrev St:=List (Option V)
abbrev VK:=V→Hp→Prop
abbrev TE:=St→Hp→VK→Prop
abbrev TT:=St→Hp→(Bool→Hp→Prop)→Prop
abbrev TA:=St→Hp→(List V→Hp→Prop)→Prop
structure Ends where
  nx:St→Hp→Prop
  rt:VK
  bk:St→Hp→Prop:=fun _ _=>False
  ct:St→Hp→Prop:=fun _ _=>False
abbrev TS:=Ends→St→Hp→Prop
def EP (X:Cx) (pins:List (Addr × Obj)) (σ:St) (Q:VK) (u:Value) (s':Shared):Prop:=∃ v H',Inv X pins σ H' s'∧RelV v u∧Q v H'
def TP (X:Cx) (pins:List (Addr × Obj)) (σ:St) (Q:Bool→Hp→Prop) (b:Bool) (s':Shared):Prop:=∃ H',Inv X pins σ H' s'∧Q b H'
def AP (X:Cx) (pins:List (Addr × Obj)) (σ:St) (Q:List V→Hp→Prop) (us:List Value) (s':Shared):Prop:=∃ vs H',Inv X pins σ H' s'∧Vals vs us∧Q vs H'
def SP (X:Cx) (pins:List (Addr × Obj)) (D:Ends) (f:Flow) (s':Shared):Prop :=
  match f with
  | .next=>∃ σ' H',Inv X pins σ' H' s'∧D.nx σ' H'
  | .brk=>∃ σ' H',Inv X pins σ' H' s'∧D.bk σ' H'
  | .cont=>∃ σ' H',Inv X pins σ' H' s'∧D.ct σ' H'
  | .ret u=>∃ v σ' H',Inv X pins σ' H' s'∧RelV v u∧D.rt v H'
def PE (X:Cx) (e:Expr) (t:TE):Prop :=
  ∀ (pins:List (Addr × Obj)) (s:Shared) (σ:St) (H:Hp) (Q:VK),Inv X pins σ H s→t σ H Q→wpAny (model X.prog X.w) X.A (eval e X.env) (EP X pins σ Q) X.xe s
def PT (X:Cx) (e:Expr) (t:TT):Prop :=
  ∀ (pins:List (Addr × Obj)) (s:Shared) (σ:St) (H:Hp) (Q:Bool→Hp→Prop),Inv X pins σ H s→t σ H Q→wpAny (model X.prog X.w) X.A (isTrue e X.env (eval e X.env)) (TP X pins σ Q) X.xe s
def PW (X:Cx) (e:Expr) (t:TT):Prop :=
  ∀ (whole:Sem Value) (pins:List (Addr × Obj)) (s:Shared) (σ:St) (H:Hp) (Q:Bool→Hp→Prop),Inv X pins σ H s→t σ H Q→wpAny (model X.prog X.w) X.A (isTrue e X.env whole) (TP X pins σ Q) X.xe s
theorem PW.pt {X:Cx} {e:Expr} {t:TT} (h:PW X e t):PT X e t:=h _
def PA (X:Cx) (es:List Expr) (t:TA):Prop :=
  ∀ (pos:Pos) (pins:List (Addr × Obj)) (s:Shared) (σ:St) (H:Hp) (Q:List V→Hp→Prop),Inv X pins σ H s→t σ H Q→wpAny (model X.prog X.w) X.A (spliced (backTo pos (starEach es X.env))) (AP X pins σ Q) X.xe s
def PS (X:Cx) (st:Stmt) (t:TS):Prop :=
  ∀ (pins:List (Addr × Obj)) (s:Shared) (σ:St) (H:Hp) (D:Ends),Inv X pins σ H s→t D σ H→wpAny (model X.prog X.w) X.A (exec st X.env) (SP X pins D) X.xe s
def PSs (X:Cx) (st:List Stmt) (t:TS):Prop :=
  ∀ (pins:List (Addr × Obj)) (s:Shared) (σ:St) (H:Hp) (D:Ends),Inv X pins σ H s→t D σ H→wpAny (model X.prog X.w) X.A (execs st X.env) (SP X pins D) X.xe s
theorem thn {α:Type} {t:Sem α} {Q Q':α→Shared→Prop} {M:Model} {A:Around} {E:Value→Shared→Prop} {s:Shared} (h:wpAny M A t Q E s) (hQ:∀ a s,Q a s→Q' a s):wpAny M A t Q' E s:=wpAny_mono h hQ fun _ _ x=>x
end L2
namespace L2
open PySem PySem.Spec PyProof.Rows
section
variable {X:Cx}
theorem bin {a b:Expr} {ta tb:TE} (ha:PE X a ta) (hb:PE X b tb) {pins:List (Addr × Obj)} {s:Shared} {σ:St} {H:Hp} {R:V→V→Hp→Prop} (I:Inv X pins σ H s) (h:ta σ H fun x H1=>tb σ H1 fun y H2=>R x y H2)
    {α:Type} {Q:α→Shared→Prop} {f:Value→Value→Sem α}
    (hf:∀ v u s2 x y H2,Inv X pins σ H2 s2→RelV x v→RelV y u→R x y H2→wpAny (model X.prog X.w) X.A (f v u) Q X.xe s2) :
    wpAny (model X.prog X.w) X.A (eval a X.env) (fun v s₁=>wpAny (model X.prog X.w) X.A (eval b X.env) (fun u s₂=>wpAny (model X.prog X.w) X.A (f v u) Q X.xe s₂) X.xe s₁) X.xe s:=by
  refine thn (ha pins s σ H _ I h) fun v s1 ⟨x,H1,I1,r1,q1⟩=>?_
  refine thn (hb pins s1 σ H1 _ I1 q1) fun u s2 ⟨y,H2,I2,r2,q2⟩=>?_
  exact hf v u s2 x y H2 I2 r1 r2 q2
inductive tVar (i:Nat) (σ:St) (H:Hp) (Q:V→Hp→Prop):Prop
  | mk (v:V) (_:σ[i]? = some (some v)) (_:Q v H):tVar i σ H Q
def tC (v:V):TE:=fun _ H Q=>Q v H
theorem pe_var {i:Nat} {x:Str} {pos:Pos} (hN:X.N[i]? = some x) (hv:Vis X.env.scope x) (hd:(x == ("__debug__" : Str)) = false:=by decide) (hcd:(x == ("__classdict__" : Str)) = false:=by decide):PE X (.Name x pos) (tVar i):=by
  intro pins s σ H Q I h
  obtain ⟨v,e,h⟩:=h
  obtain ⟨m,hn,hl⟩:=I.loc
  obtain ⟨u,r,l⟩:=hl i x v hN e hv
  have fin:EP X pins σ Q u s:=⟨v,H,I,r,h⟩
  rcases l with ⟨hk,hm⟩ | ⟨hk,c,hc,hcell⟩
  · exact wpAny_Name (wpAny_loadName_local I.ok.kind hk hn hm fin) hd
  · rcases hk with hk | hk
    · exact wpAny_Name (wpAny_loadName_cell I.ok.kind hk hc hcell fin) hd
    · exact wpAny_Name (wpAny_loadName_free I.ok.kind hk hc hcell fin hcd) hd
theorem pe_int {i j pos}:PE X (.Constant (.int i) j pos) (tC (.int i)):=fun _ _ _ H _ I h=>wpAny_Constant_int ⟨.int i,H,I.tok _,⟨_,rfl⟩,h⟩
theorem pe_bl {b j pos}:PE X (.Constant (.bool b) j pos) (tC (.bl b)):=fun _ _ _ H _ I h=>Constant_bool ⟨.bl b,H,I,rfl,h⟩
theorem pe_non {j pos}:PE X (.Constant .none j pos) (tC .non):=fun _ _ _ H _ I h=>Constant_none ⟨.non,H,I,rfl,h⟩
theorem pe_str {x j pos}:PE X (.Constant (.str x) j pos) (tC (.str x)):=fun _ _ _ H _ I h=>Calls.Constant_str ⟨.str x,H,I.tok _,⟨_,rfl⟩,h⟩
def Gl (X:Cx) (x:Str):Prop:=X.env.kindOf x = some .globalImplicit
theorem ld_glob {E:Value→Shared→Prop} {pins:List (Addr × Obj)} {s:Shared} {σ:St} {H:Hp} {x:Str} {u:Value} {pos:Pos} {Q:Value→Shared→Prop} (I:Inv X pins σ H s) (hg:Gl X x) (hm:X.mg x = some u) (h:Q u s)
    (hd:(x == ("__debug__" : Str)) = false:=by decide):wpAny (model X.prog X.w) X.A (eval (.Name x pos) X.env) Q E s :=
  Calls.Name_function_global I.ok.kind hg (Calls.loadGlobal_global (by rw [I.ok.glob]; exact I.mod.glob.keeps I.bk) hm h) hd
theorem ld_blt {E:Value→Shared→Prop} {pins:List (Addr × Obj)} {s:Shared} {σ:St} {H:Hp} {x:Str} {u:Value} {pos:Pos} {Q:Value→Shared→Prop} (I:Inv X pins σ H s) (hg:Gl X x) (hm:X.mg x = none) (hv:bootBuiltins x = some u) (h:Q u s)
    (hn:x ≠ "__name__" := by decide) (hd:(x == ("__debug__" : Str)) = false:=by decide):wpAny (model X.prog X.w) X.A (eval (.Name x pos) X.env) Q E s:=by
  obtain ⟨mb,h1,h2⟩:=I.mod.blt
  exact Calls.Name_function_global I.ok.kind hg (Calls.loadGlobal_builtin (by rw [I.ok.glob]; exact I.mod.glob.keeps I.bk) hm (by rw [I.ok.blt]; exact h1.keeps I.bk) ((h2 x hn).trans hv) h) hd
theorem pe_glob {x:Str} {v:V} {u:Value} {pos:Pos} (hg:Gl X x) (hm:X.mg x = some u) (r:RelV v u) (hd:(x == ("__debug__" : Str)) = false:=by decide):PE X (.Name x pos) (tC v) :=
  fun _ _ _ H _ I h=>ld_glob I hg hm ⟨v,H,I,r,h⟩ hd
theorem pe_bltn {x:Str} {v:V} {u:Value} {pos:Pos} (hg:Gl X x) (hm:X.mg x = none) (hv:bootBuiltins x = some u) (r:RelV v u) (hn:x ≠ "__name__" := by decide) (hd:(x == ("__debug__" : Str)) = false:=by decide):PE X (.Name x pos) (tC v) :=
  fun _ _ _ H _ I h=>ld_blt I hg hm hv ⟨v,H,I,r,h⟩ hn hd
variable {a b:Expr} {ta tb:TE} {pos:Pos}
def PC (X:Cx) (op:CmpOp) (a b:Expr) (t:TE):Prop :=
  ∀ (pins:List (Addr × Obj)) (s:Shared) (σ:St) (H:Hp) (Q:VK),Inv X pins σ H s→t σ H Q →
    wpAny (model X.prog X.w) X.A (eval a X.env) (fun v s₁=>wpAny (model X.prog X.w) X.A (eval b X.env) (fun u s₂=>wpAny (model X.prog X.w) X.A (compareOp op v u) (EP X pins σ Q) X.xe s₂) X.xe s₁) X.xe s
def tB (t:TE):TT:=fun σ H Q=>t σ H fun x H1=>∃ c,x = .bl c∧Q c H1
theorem pt_cmp {op:CmpOp} {t:TE} (h:PC X op a b t) (h1:behindInMarks op b = false:=by first | exact nobehind _ (by decide) (by decide) | rfl):PT X (.Compare a [op] [b] pos) (tB t):=by
  intro pins s σ H Q I hw
  refine wpAny_isTrue_Compare1 (thn (h pins s σ H _ I hw) fun v s1 h1=>thn h1 fun u s2 h2=>thn h2 fun c s3 ⟨x,H1,I1,r1,q1⟩=>?_) h1
  obtain ⟨d,rfl,q⟩:=q1
  cases r1
  exact wpAny_truthy_bool ⟨H1,I1,q⟩
variable {tA tB':TT} {rest:List Expr}
def tAnd (t u:TT):TT:=fun σ H Q=>t σ H fun c H1=>if c = true then u σ H1 Q else Q false H1
def tOr (t u:TT):TT:=fun σ H Q=>t σ H fun c H1=>if c = true then Q true H1 else u σ H1 Q
def tNot (t:TT):TT:=fun σ H Q=>t σ H fun c H1=>Q (!c) H1
theorem pw_and1 (ha:PT X a tA):PW X (.BoolOp .And [a] pos) tA:=by
  intro wh pins s σ H Q I h
  refine isTrue_and (thn (ha pins s σ H Q I h) fun c s1 e=>?_)
  cases c with
  | true=>exact isTrue_and_nil e
  | false=>exact e
theorem pw_or1 (ha:PT X a tA):PW X (.BoolOp .Or [a] pos) tA:=by
  intro wh pins s σ H Q I h
  refine isTrue_or (thn (ha pins s σ H Q I h) fun c s1 e=>?_)
  cases c with
  | false=>exact isTrue_or_nil e
  | true=>exact e
theorem pw_and (ha:PT X a tA) (hb:PW X (.BoolOp .And (b :: rest) pos) tB'):PW X (.BoolOp .And (a :: b :: rest) pos) (tAnd tA tB'):=by
  intro wh pins s σ H Q I h
  refine isTrue_and (thn (ha pins s σ H _ I h) fun c s1 ⟨H1,I1,q1⟩=>?_)
  cases c with
  | true=>exact hb wh pins s1 σ H1 Q I1 q1
  | false=>exact ⟨H1,I1,q1⟩
theorem pw_or (ha:PT X a tA) (hb:PW X (.BoolOp .Or (b :: rest) pos) tB'):PW X (.BoolOp .Or (a :: b :: rest) pos) (tOr tA tB'):=by
  intro wh pins s σ H Q I h
  refine isTrue_or (thn (ha pins s σ H _ I h) fun c s1 ⟨H1,I1,q1⟩=>?_)
  cases c with
  | true=>exact ⟨H1,I1,q1⟩
  | false=>exact hb wh pins s1 σ H1 Q I1 q1
theorem pt_not (ha:PT X a tA):PT X (.UnaryOp .Not a pos) (tNot tA):=by
  intro pins s σ H Q I h
  exact isTrue_not (ha pins s σ H (fun c H1=>Q (!c) H1) I h)
def tAndV (ta tb:TE):TE:=fun σ H Q=>ta σ H fun x H1=>∃ c,x = .bl c∧if c = true then tb σ H1 Q else Q (.bl false) H1
theorem pe_one {op} {t:TE} (h:PE X a t):PE X (.BoolOp op [a] pos) t:=fun pins s σ H Q I hw=>BoolOp_one (h pins s σ H Q I hw)
theorem pe_and (ha:PE X a ta) (hb:PE X (.BoolOp .And (b :: rest) pos) tb):PE X (.BoolOp .And (a :: b :: rest) pos) (tAndV ta tb):=by
  intro pins s σ H Q I h
  refine BoolOp_and (thn (ha pins s σ H _ I h) fun v s1 ⟨x,H1,I1,r1,q1⟩=>?_)
  obtain ⟨c,rfl,q1⟩:=q1
  cases r1
  refine wpAny_truthy_bool ?_
  cases c with
  | true=>exact hb pins s1 σ H1 Q I1 q1
  | false=>exact ⟨.bl false,H1,I1,rfl,q1⟩
def tIf (t:TT) (ta tb:TE):TE:=fun σ H Q=>t σ H fun c H1=>if c = true then ta σ H1 Q else tb σ H1 Q
theorem pe_ifExp {c:Expr} (hc:PT X c tA) (ha:PE X a ta) (hb:PE X b tb):PE X (.IfExp c a b pos) (tIf tA ta tb):=by
  intro pins s σ H Q I h
  refine wpAny_IfExp (thn (hc pins s σ H _ I h) fun d s1 ⟨H1,I1,q1⟩=>?_)
  cases d with
  | true=>exact ha pins s1 σ H1 Q I1 q1
  | false=>exact hb pins s1 σ H1 Q I1 q1
end
end L2
namespace L2
open PySem PySem.Spec PyProof.Rows
def SqL (K:PySem.W.Frag) (H:Hp) (a:Addr) (xs:List V):Prop :=
  Rd H a (.lst xs) ∨
    ∃ (o:Obj) (its:Array Value) (n:Nat),K.lookup a = some o∧o.cls = .type "list" ∧ o.dict = none∧o.data = .seq its n∧its.size≤sizeLine∧Vals xs its.toList
def SqT (K:PySem.W.Frag) (H:Hp) (a:Addr) (xs:List V):Prop :=
  Rd H a (.tup xs) ∨
    ∃ (o:Obj) (its:Array Value) (n:Nat),K.lookup a = some o∧o.cls = .type "tuple" ∧ o.data = .seq its n∧its.size≤sizeLine∧Vals xs its.toList
def absV:Value→Option V
  | .none=>some .non
  | .bool b=>some (.bl b)
  | .int i _=>some (.int i)
  | .str x _=>some (.str x)
  | .bytes b _=>some (.byt b)
  | .float b _=>some (.flt b)
  | .ref a=>some (.ref a)
  | .type n=>some (.ty n)
  | _=>none
theorem RelV.abs {x:V} {u:Value} (r:RelV x u):absV u = some x:=by
  cases x with
  | non=>cases r; rfl
  | bl _=>cases r; rfl
  | int _=>obtain ⟨t,rfl⟩:=r; rfl
  | str _=>obtain ⟨t,rfl⟩:=r; rfl
  | byt _=>obtain ⟨t,rfl⟩:=r; rfl
  | flt _=>obtain ⟨t,rfl⟩:=r; rfl
  | ref _=>cases r; rfl
  | ty _=>cases r; rfl
theorem RelV.inj {x y:V} {u:Value} (r:RelV x u) (q:RelV y u):x = y:=Option.some.inj (r.abs.symm.trans q.abs)
theorem Vals.inj:∀ {xs ys:List V} {us:List Value},Vals xs us→Vals ys us→xs = ys
  | _,_,_,.nil,.nil=>rfl
  | _,_,_,.cons r t,.cons r' t'=>by rw [r.inj r',Vals.inj t t']
section
variable {X:Cx} {pins:List (Addr × Obj)} {σ:St} {H:Hp} {s:Shared} {a:Addr} {xs ys:List V}
theorem SqL.of {K:PySem.W.Frag} (h:H a = some (.lst xs)):SqL K H a xs:=.inl (.inl h)
theorem SqT.of {K:PySem.W.Frag} (h:H a = some (.tup xs)):SqT K H a xs:=.inl (.inl h)
theorem Inv.list (I:Inv X pins σ H s) (h:SqL X.K H a xs):∃ its:List Value,Vals xs its∧PlainL s.heap a its.toArray∧xs.length≤sizeLine:=by
  rcases h with h | ⟨o,its,n,hk,hc,hd,hs,hz,r⟩
  · obtain ⟨z,its,n,r,e⟩:=h.ok I.hok
    exact ⟨its,r,⟨_,n,e,rfl,rfl,rfl⟩,z⟩
  · refine ⟨its.toList,r,⟨o,n,I.kIn a o hk,hc,hd,by simpa using hs⟩,?_⟩
    have e:=r.length
    simp only [Array.length_toList] at e
    omega
theorem Inv.tuple (I:Inv X pins σ H s) (h:SqT X.K H a xs):∃ its:List Value,Vals xs its∧IsTup s.heap a its.toArray∧xs.length≤sizeLine:=by
  rcases h with h | ⟨o,its,n,hk,hc,hs,hz,r⟩
  · obtain ⟨z,its,r,p⟩:=h.ok I.hok
    exact ⟨its,r,p,z⟩
  · refine ⟨its.toList,r,⟨o,I.kIn a o hk,hc,n,by simpa using hs⟩,?_⟩
    have e:=r.length
    simp only [Array.length_toList] at e
    omega
theorem Inv.list_inj (I:Inv X pins σ H s) (h:SqL X.K H a xs) (h':SqL X.K H a ys):xs = ys:=by
  obtain ⟨its,r,⟨o,n,e,_,_,d⟩,_⟩:=I.list h
  obtain ⟨its',r',⟨o',n',e',_,_,d'⟩,_⟩:=I.list h'
  rw [e] at e'; cases e'
  rw [d] at d'
  injection d' with d1 _
  have:its = its':=by simpa using congrArg Array.toList d1
  subst this
  exact r.inj r'
theorem Inv.tuple_inj (I:Inv X pins σ H s) (h:SqT X.K H a xs) (h':SqT X.K H a ys):xs = ys:=by
  obtain ⟨its,r,⟨o,e,_,n,d⟩,_⟩:=I.tuple h
  obtain ⟨its',r',⟨o',e',_,n',d'⟩,_⟩:=I.tuple h'
  rw [e] at e'; cases e'
  rw [d] at d'
  injection d' with d1 _
  have:its = its':=by simpa using congrArg Array.toList d1
  subst this
  exact r.inj r'
end
abbrev Cx.wish (X:Cx) (E:Value→Shared→Prop):Cx:={ X with xe:=E }
abbrev Cx.nox (X:Cx):Cx:=X.wish fun _ _=>False
theorem Cx.Ok.wish {X:Cx} (ok:X.Ok) (E:Value→Shared→Prop):(X.wish E).Ok :=
  ⟨ok.mod,ok.kind,ok.glob,ok.blt,ok.above,ok.inj,ok.has,ok.cab,ok.hd,ok.frames,ok.stk,ok.exf,ok.bs,ok.bsz,ok.noex,ok.exfs,ok.funs,ok.frf⟩
theorem Cx.Ok.unwish {X:Cx} {E:Value→Shared→Prop} (ok:(X.wish E).Ok):X.Ok :=
  ⟨ok.mod,ok.kind,ok.glob,ok.blt,ok.above,ok.inj,ok.has,ok.cab,ok.hd,ok.frames,ok.stk,ok.exf,ok.bs,ok.bsz,ok.noex,ok.exfs,ok.funs,ok.frf⟩
section
variable {X:Cx} {pins:List (Addr × Obj)} {σ:St} {H:Hp} {s:Shared} {E:Value→Shared→Prop}
theorem Inv.wish (I:Inv X pins σ H s) (E:Value→Shared→Prop):Inv (X.wish E) pins σ H s:=⟨I.ok.wish E,I.os,I.bare,I.base,I.loc,I.cell,I.free,I.freeC,I.pin,I.hok,I.len⟩
theorem Inv.unwish (I:Inv (X.wish E) pins σ H s):Inv X pins σ H s:=⟨I.ok.unwish,I.os,I.bare,I.base,I.loc,I.cell,I.free,I.freeC,I.pin,I.hok,I.len⟩
theorem SP.unwish {D:Ends} {f:Flow} {s':Shared} (h:SP (X.wish E) pins D f s'):SP X pins D f s':=by
  cases f with
  | next=>obtain ⟨σ',H',I,q⟩:=h; exact ⟨σ',H',I.unwish,q⟩
  | brk=>obtain ⟨σ',H',I,q⟩:=h; exact ⟨σ',H',I.unwish,q⟩
  | cont=>obtain ⟨σ',H',I,q⟩:=h; exact ⟨σ',H',I.unwish,q⟩
  | ret u=>obtain ⟨v,σ',H',I,r,q⟩:=h; exact ⟨v,σ',H',I.unwish,r,q⟩
theorem PSs.nox {st:List Stmt} {t:TS} (h:PSs X.nox st t):PSs X st t:=fun pins s σ H D I hw =>
  wpAny_mono (h pins s σ H D (I.wish _) hw) (fun _ _ q=>q.unwish) fun _ _ z=>False.elim z
end
section
variable {X:Cx} {st:Stmt} {rest:List Stmt} {t u:TS} {e:Expr} {te:TE} {pos:Pos}
def tNext:TS:=fun D σ H=>D.nx σ H
def tSeq (t u:TS):TS:=fun D σ H=>t { D with nx:=u D } σ H
theorem pss_nil:PSs X [] tNext:=fun _ _ σ H _ I h=>wpAny_execs_nil ⟨σ,H,I,h⟩
theorem pss_cons (h1:PS X st t) (h2:PSs X rest u):PSs X (st :: rest) (tSeq t u):=by
  intro pins s σ H D I h
  refine wpAny_execs_cons (thn (h1 pins s σ H { D with nx:=u D } I h) fun f s1 q=>?_)
  cases f with
  | next =>
    obtain ⟨σ',H',I',q⟩:=q
    exact h2 pins s1 σ' H' D I' q
  | ret v=>exact q
  | brk=>exact q
  | cont=>exact q
theorem pss_one (h1:PS X st t):PSs X [st] t:=by
  intro pins s σ H D I h
  refine wpAny_execs_cons (thn (h1 pins s σ H D I h) fun f s1 q=>?_)
  cases f with
  | next=>exact wpAny_execs_nil q
  | ret v=>exact q
  | brk=>exact q
  | cont=>exact q
theorem Inv.quiet {pins:List (Addr × Obj)} {σ:St} {H:Hp} {s:Shared} (I:Inv X pins σ H s):interactive X.env = false:=by simp [interactive,I.ok.kind]
def tDrop (te:TE):TS:=fun D σ H=>te σ H fun _ H1=>D.nx σ H1
theorem ps_expr (he:PE X e te) (hs:swapsWith e none pos.line X.env = pure false:=by rfl):PS X (.Expr e pos) (tDrop te):=by
  intro pins s σ H D I h
  exact wpAny_Expr_any (thn (he pins s σ H _ I h) fun v s1 ⟨x,H1,I1,r1,q1⟩=>⟨σ,H1,I1,q1⟩) I.quiet hs
def tRet (te:TE):TS:=fun D σ H=>te σ H D.rt
theorem ps_ret (he:PE X e te):PS X (.Return (some e) pos) (tRet te):=by
  intro pins s σ H D I h
  exact wpAny_Return_some (thn (he pins s σ H _ I h) fun v s1 ⟨x,H1,I1,r1,q1⟩=>⟨x,σ,H1,I1,r1,q1⟩)
def tIfS (c:TT) (t u:TS):TS:=fun D σ H=>c σ H fun b H1=>if b = true then t D σ H1 else u D σ H1
theorem ps_if {c:Expr} {a b:List Stmt} {tc:TT} (hc:PT X c tc) (ha:PSs X a t) (hb:PSs X b u):PS X (.If c a b pos) (tIfS tc t u):=by
  intro pins s σ H D I h
  refine wpAny_If (thn (hc pins s σ H _ I h) fun d s1 ⟨H1,I1,q1⟩=>?_)
  cases d with
  | true=>exact ha pins s1 σ H1 D I1 q1
  | false=>exact hb pins s1 σ H1 D I1 q1
def tNever:TS:=fun _ _ _=>False
theorem ps_never:PS X st tNever:=fun _ _ _ _ _ _ h=>h.elim
theorem pss_never {sts:List Stmt}:PSs X sts tNever:=fun _ _ _ _ _ _ h=>h.elim
end
abbrev TG:=V→St→Hp→(St→Hp→Prop)→Prop
def PG (X:Cx) (target:Expr) (t:TG):Prop :=
  ∀ (pins:List (Addr × Obj)) (s:Shared) (σ:St) (H:Hp) (v:V) (u:Value) (Q:St→Hp→Prop),Inv X pins σ H s→RelV v u→t v σ H Q →
    wpAny (model X.prog X.w) X.A (assign target X.env u) (fun _ s'=>∃ σ' H',Inv X pins σ' H' s'∧Q σ' H') X.xe s
abbrev TIp:=V→V→Hp→VK→Prop
def PIp (X:Cx) (op:Operator) (t:TIp):Prop :=
  ∀ (pins:List (Addr × Obj)) (s:Shared) (σ:St) (H:Hp) (x y:V) (v u:Value) (Q:VK),Inv X pins σ H s→RelV x v→RelV y u→t x y H Q →
    wpAny (model X.prog X.w) X.A (inplaceOp op v u) (EP X pins σ Q) X.xe s
section
variable {X:Cx} {pos:Pos}
def gName (i:Nat):TG:=fun v σ H Q=>Q (σ.set i (some v)) H
theorem pg_name {i:Nat} {x:Str} (hN:X.N.Nodup) (hi:X.N[i]? = some x) (hx:Loc X.env.scope x) (hf:X.fn x = true∨X.env.scope.names.lookup x = some .local:=by first | exact .inl rfl | exact .inr rfl | assumption):PG X (.Name x pos) (gName i):=by
  intro pins s σ H v u Q I r h
  exact wpAny_assign_Name (store_ok I hN hi hx r (fun s' I'=>⟨_,H,I',h⟩) hf)
def tAsg (te:TE) (g:TG):TS:=fun D σ H=>te σ H fun x H1=>g x σ H1 D.nx
theorem ps_set {i:Nat} {x:Str} {e:Expr} {te:TE} {pos':Pos} (hN:X.N.Nodup) (hi:X.N[i]? = some x) (hx:Loc X.env.scope x) (he:PE X e te) (hs:swapsWith e (some (.Name x pos')) pos.line X.env = pure false:=by rfl) (hf:X.fn x = true∨X.env.scope.names.lookup x = some .local:=by first | exact .inl rfl | exact .inr rfl | assumption) :
    PS X (.Assign [.Name x pos'] e pos) (tAsg te (gName i)):=by
  intro pins s σ H D I h
  refine wpAny_Assign_Name (thn (he pins s σ H _ I h) fun v s1 ⟨y,H1,I1,r1,q1⟩=>?_) hs
  exact store_ok I1 hN hi hx r1 (fun s2 I2=>⟨_,H1,I2,q1⟩) hf
def tAug (i:Nat) (te:TE) (ti:TIp):TS:=fun D σ H=>∃ x,σ[i]? = some (some x)∧te σ H fun y H1=>ti x y H1 fun z H2=>D.nx (σ.set i (some z)) H2
theorem ps_aug {i:Nat} {x:Str} {e:Expr} {te:TE} {op:Operator} {ti:TIp} {pos':Pos} (hN:X.N.Nodup) (hi:X.N[i]? = some x) (hx:Loc X.env.scope x) (he:PE X e te) (ho:PIp X op ti) (hf:X.fn x = true∨X.env.scope.names.lookup x = some .local:=by first | exact .inl rfl | exact .inr rfl | assumption) :
    PS X (.AugAssign (.Name x pos') op e pos) (tAug i te ti):=by
  intro pins s σ H D I h
  obtain ⟨v,e1,h⟩:=h
  obtain ⟨m,hn,hl⟩:=I.loc
  have vis:Vis X.env.scope x:=by rcases hx with k | k; exact .inl k; exact .inr (.inl k)
  obtain ⟨u,r,l⟩:=hl i x v hi e1 vis
  refine wpAny_AugAssign_Name ?_
  have go:wpAny (model X.prog X.w) X.A (eval e X.env) (fun w s₂=>wpAny (model X.prog X.w) X.A (inplaceOp op u w) (fun r s₃=>wpAny (model X.prog X.w) X.A (storeName X.env x r) (fun _=>SP X pins D .next) X.xe s₃) X.xe s₂) X.xe s:=by
    refine thn (he pins s σ H _ I h) fun w s1 ⟨y,H1,I1,r1,q1⟩=>?_
    refine thn (ho pins s1 σ H1 v y u w _ I1 r r1 q1) fun z s2 ⟨zv,H2,I2,r2,q2⟩=>?_
    exact store_ok I2 hN hi hx r2 (fun s3 I3=>⟨_,H2,I3,q2⟩) hf
  rcases l with ⟨hk,hm⟩ | ⟨hk,c,hc,hcell⟩
  · exact wpAny_loadName_local I.ok.kind hk hn hm go
  · rcases hk with hk | hk
    · exact wpAny_loadName_cell I.ok.kind hk hc hcell go
    · rcases hx with k | k
      · have:X.env.scope.names.lookup x = some .free:=hk
        rw [k] at this; cases this
      · have:X.env.scope.names.lookup x = some .free:=hk
        rw [k] at this; cases this
end
section
variable {X:Cx} {pos:Pos}
def tWhile (c:TT) (tb:TS):TS:=fun D σ H=>∃ W:Nat→St→Hp→Prop,(∃ m,W m σ H)∧∀ m σ H,W m σ H →
  c σ H fun b H1=>if b = true then ∃ N:St→Hp→Prop,(∀ σ' H',N σ' H'→∃ m',m' < m∧W m' σ' H')∧tb { D with nx:=N,ct:=N,bk:=D.nx } σ H1 else D.nx σ H1
theorem ps_while {c:Expr} {body:List Stmt} {tc:TT} {tb:TS} (hp:PassesOwn (model X.prog X.w) X.A X.env X.xe) (hc:PT X c tc) (hb:PSs X body tb):PS X (.While c body [] pos) (tWhile tc tb):=by
  intro pins s σ H D I h
  obtain ⟨W,⟨m0,w0⟩,turn⟩:=h
  refine wpAny_While (codeAny_whileLoop (fun n s'=>∃ σ' H',Inv X pins σ' H' s'∧W n σ' H') ?_ m0 ⟨σ,H,I,w0⟩)
  rintro n s1 ⟨σ1,H1,I1,w1⟩
  refine wpAny_passesOwn hp (thn (hc pins s1 σ1 H1 _ I1 (turn n σ1 H1 w1)) fun b s2 ⟨H2,I2,q2⟩=>?_)
  cases b with
  | true =>
    obtain ⟨N,hN,q2⟩:=q2
    rw [if_pos rfl]
    refine wpAny_passesOwn hp (thn (hb pins s2 σ1 H2 _ I2 q2) fun f s3 q3=>?_)
    cases f with
    | next =>
      obtain ⟨σ3,H3,I3,n3⟩:=q3
      obtain ⟨m',hm,w3⟩:=hN σ3 H3 n3
      exact ⟨m',hm,σ3,H3,I3,w3⟩
    | cont =>
      obtain ⟨σ3,H3,I3,n3⟩:=q3
      obtain ⟨m',hm,w3⟩:=hN σ3 H3 n3
      exact ⟨m',hm,σ3,H3,I3,w3⟩
    | brk=>exact q3
    | ret v=>exact q3
  | false =>
    rw [if_neg Bool.false_ne_true]
    exact wpAny_execs_nil ⟨σ1,H2,I2,q2⟩
end
structure It where
  go:Nat→Hp→Prop
  yld:Nat→Hp→V→Hp→Prop
  stop:Nat→Hp→Prop
def FpOk (X:Cx) (pins:List (Addr × Obj)) (H:Hp) (b:Addr):Prop :=
  H b = none∧b≠X.env.locals∧b ∉ X.fs∧(b∈X.ex∨X.s₀.heap.objs.size≤b)∧(∀ x c,X.env.cells.lookup x = some c→c≠b)∧∀ p∈X.pn ++ pins,p.1≠b
theorem Inv.fpOk {X:Cx} {pins:List (Addr × Obj)} {σ:St} {H H':Hp} {s:Shared} {b:Addr} (I:Inv X pins σ H s) (hb:s.heap.objs.size≤b) (hn:H' b = none):FpOk X pins H' b:=by
  refine ⟨hn,Nat.ne_of_gt (Nat.lt_of_lt_of_le I.lt hb),I.nofs hb,.inr (Nat.le_trans I.sz hb),fun x c e z=>?_,fun p hp z=>?_⟩
  · obtain ⟨v,q⟩:=I.cell x c e
    exact absurd (Nat.lt_of_lt_of_le q.lt (by rw [z]; exact hb)) (Nat.lt_irrefl _)
  · exact absurd (Nat.lt_of_lt_of_le (Heap.lt_size (I.pin p hp).1) (by rw [z]; exact hb)) (Nat.lt_irrefl _)
abbrev Calm (X:Cx):Prop:=X.calm = true
structure Turn (P:Program) (w:World) (K:PySem.W.Frag) (tg:Expr) (J:It) (fp:List Addr) (it:Addr) (tn:Nat→Heap→Prop) (rd:Cx→Prop:=Calm):Prop where
  mem:it∈fp
  obj:∀ i h,tn i h→∀ b∈fp,∃ o,h.get? b = some o∧∀ v,o.data≠.cell v
  keep:∀ i h h',tn i h→(∀ b∈fp,∀ o,h.get? b = some o→h'.get? b = some o)→tn i h'
  item:∀ (X:Cx),X.prog = P→X.w = w→X.K = K→rd X→∀ (i:Nat) (pins:List (Addr × Obj)) (s:Shared) (σ:St) (H:Hp) (E:Value→Shared→Prop),Inv X pins σ H s→(∀ b∈fp,FpOk X pins H b)→tn i s.heap→J.go i H →
    wpAny (model P w) X.A (pyNext (.ref it)) (fun r s1=>∃ u,r = some u ∧
      wpAny (model P w) X.A (letOwnedTupleGo tg (.ref it) u) (fun _ s2=>∃ x H',Inv X pins σ H' s2∧RelV x u∧J.yld i H x H'∧tn (i + 1) s2.heap∧∀ b∈fp,H' b = none) E s1) E s
  done:∀ (X:Cx),X.prog = P→X.w = w→X.K = K→rd X→∀ (i:Nat) (pins:List (Addr × Obj)) (s:Shared) (σ:St) (H:Hp) (E:Value→Shared→Prop),Inv X pins σ H s→(∀ b∈fp,FpOk X pins H b)→tn i s.heap→J.stop i H →
    wpAny (model P w) X.A (pyNext (.ref it)) (fun r s1=>r = none∧Inv X pins σ H s1) E s
  self:∀ (A:Around) (i:Nat) (s:Shared) (Q:Value→Shared→Prop) (E:Value→Shared→Prop),tn i s.heap→Q (.ref it) s→wpAny (model P w) A (pyIter (.ref it)) Q E s
abbrev TI:=St→Hp→(It→Hp→Prop)→Prop
def PIEr (rd:Cx→Prop) (X:Cx) (pins:List (Addr × Obj)) (σ:St) (tg:Expr) (R:It→Hp→Prop) (itv:Value) (s2:Shared):Prop :=
  ∃ (it:Addr) (fp:List Addr) (tn:Nat→Heap→Prop) (J:It) (H':Hp),itv = .ref it∧Inv X pins σ H' s2∧Turn X.prog X.w X.K tg J fp it tn rd∧tn 0 s2.heap∧(∀ b∈fp,FpOk X pins H' b)∧R J H'
abbrev PIE:=PIEr Calm
def PIr (rd:Cx→Prop) (X:Cx) (tg iter:Expr) (wi:TI):Prop :=
  ∀ (pins:List (Addr × Obj)) (s:Shared) (σ:St) (H:Hp) (R:It→Hp→Prop),Inv X pins σ H s→wi σ H R →
    wpAny (model X.prog X.w) X.A (eval iter X.env) (fun v s1=>wpAny (model X.prog X.w) X.A (pyIter v) (PIEr rd X pins σ tg R) X.xe s1) X.xe s
abbrev PI:=PIr Calm
theorem go_of {M:Model} {A:Around} {E:Value→Shared→Prop} {s:Shared} {tg:Expr} {it:Addr} {u:Value} {o:Obj} {n:String} {vs:Array Value} {Q:Unit→Shared→Prop} (ho:s.heap.get? it = some o) (hc:o.cls = .type n) (hd:o.data = .fields vs)
    (hn:["enumerate", "zip", "dict_itemiterator", "dict_reverseitemiterator", "odict_iterator", "itertools.zip_longest", "itertools.pairwise"].contains n = false) (hQ:Q () s):wpAny M A (letOwnedTupleGo tg (.ref it) u) Q E s:=by
  unfold letOwnedTupleGo
  cases tg <;> first
    | exact wpAny_pure hQ
    | (cases u <;> first
        | exact wpAny_pure hQ
        | (refine wpAny_bind (wpAny_load ho ?_)
           rw [hc,hd]
           show wpAny M A (if (["enumerate", "zip", "dict_itemiterator", "dict_reverseitemiterator", "odict_iterator", "itertools.zip_longest", "itertools.pairwise"].contains n && vs[0]? == some (rawInt _)) = true then _ else _) Q E s
           rw [if_neg (by intro h; rw [hn,Bool.false_and] at h; cases h)]
           exact wpAny_pure hQ))
def Itl (K:PySem.W.Frag) (a:Addr):It :=
  ⟨fun i H=>∃ xs x,SqL K H a xs∧xs[i]? = some x,fun i H x H'=>H' = H∧∀ xs,SqL K H a xs→xs[i]? = some x,fun i H=>∃ xs,SqL K H a xs∧xs.length≤i⟩
def Itt (K:PySem.W.Frag) (a:Addr):It :=
  ⟨fun i H=>∃ xs x,SqT K H a xs∧xs[i]? = some x,fun i H x H'=>H' = H∧∀ xs,SqT K H a xs→xs[i]? = some x,fun i H=>∃ xs,SqT K H a xs∧xs.length≤i⟩
def Itr (lo:Int) (n:Nat):It:=⟨fun i _=>i < n,fun i H x H'=>H' = H∧x = .int (lo + i),fun i _=>n≤i⟩
theorem turn_list {P:Program} {w:World} {K:PySem.W.Frag} {tg:Expr} (a it:Addr):Turn P w K tg (Itl K a) [it] it (fun i h=>h.IsListIter it a i) where
  mem:=by simp
  obj:=fun i h st b hb=>by
    have e:b = it:=by simpa using hb
    subst e
    obtain ⟨o,e,c,d⟩:=st
    exact ⟨o,e,fun v z=>by rw [d] at z; cases z⟩
  keep:=fun i h h' st k=>st.at fun o e=>k it (by simp) o e
  item:=by
    intro X hP hw hK hc i pins s σ H E I hf st hg
    subst hP hw hK
    obtain ⟨xs,x,hq,hx⟩:=hg
    obtain ⟨its,rv,p,hz⟩:=I.list hq
    obtain ⟨u,hu,ru⟩:=rv.get hx
    obtain ⟨f0,f1,f2,f3,f4,f5⟩:=hf it (by simp)
    refine wpAny_pyNext_list_item st p.isList (x:=u) (by simpa using hu) fun h' st' sb=>?_
    have I1:Inv X pins σ H { s with heap:=h' }:=I.turned (t':=s.toks) (fun b o hb e=>(sb.2 b hb).trans e) f0 f1 f3 f4 f5
    obtain ⟨o,e,c,d⟩:=id st'
    exact ⟨u,rfl,go_of (s:={ s with heap:=h' }) e c d (by decide) ⟨x,H,I1,ru,⟨rfl,fun ys hy=>by rw [I.list_inj hy hq]; exact hx⟩,st',fun b hb=>(hf b hb).1⟩⟩
  done:=by
    intro X hP hw hK hc i pins s σ H E I hf st hg
    subst hP hw hK
    obtain ⟨xs,hq,hx⟩:=hg
    obtain ⟨its,rv,p,hz⟩:=I.list hq
    obtain ⟨f0,f1,f2,f3,f4,f5⟩:=hf it (by simp)
    have hl:=rv.length
    exact wpAny_pyNext_list_end (I.ok.hd hc) st p.isList (by simp; omega) fun h' eb=>⟨rfl,I.turned (t':=s.toks) (fun b o hb e=>eb b o hb e) f0 f1 f3 f4 f5⟩
  self:=fun _ _ _ _ _ st h=>wpAny_pyIter_listiter st h
theorem turn_tuple {P:Program} {w:World} {K:PySem.W.Frag} {tg:Expr} (a it:Addr):Turn P w K tg (Itt K a) [it] it (fun i h=>h.IsTupleIter it a i) where
  mem:=by simp
  obj:=fun i h st b hb=>by
    have e:b = it:=by simpa using hb
    subst e
    obtain ⟨o,e,c,d⟩:=st
    exact ⟨o,e,fun v z=>by rw [d] at z; cases z⟩
  keep:=fun i h h' st k=>st.at fun o e=>k it (by simp) o e
  item:=by
    intro X hP hw hK hc i pins s σ H E I hf st hg
    subst hP hw hK
    obtain ⟨xs,x,hq,hx⟩:=hg
    obtain ⟨its,rv,p,hz⟩:=I.tuple hq
    obtain ⟨u,hu,ru⟩:=rv.get hx
    obtain ⟨f0,f1,f2,f3,f4,f5⟩:=hf it (by simp)
    refine wpAny_pyNext_tuple_item st (show s.heap.IsTuple a its.toArray from p) (x:=u) (by simpa using hu) fun h' st' sb=>?_
    have I1:Inv X pins σ H { s with heap:=h' }:=I.turned (t':=s.toks) (fun b o hb e=>(sb.2 b hb).trans e) f0 f1 f3 f4 f5
    obtain ⟨o,e,c,d⟩:=id st'
    exact ⟨u,rfl,go_of (s:={ s with heap:=h' }) e c d (by decide) ⟨x,H,I1,ru,⟨rfl,fun ys hy=>by rw [I.tuple_inj hy hq]; exact hx⟩,st',fun b hb=>(hf b hb).1⟩⟩
  done:=by
    intro X hP hw hK hc i pins s σ H E I hf st hg
    subst hP hw hK
    obtain ⟨xs,hq,hx⟩:=hg
    obtain ⟨its,rv,p,hz⟩:=I.tuple hq
    obtain ⟨f0,f1,f2,f3,f4,f5⟩:=hf it (by simp)
    have hl:=rv.length
    exact wpAny_pyNext_tuple_end (I.ok.hd hc) st (show s.heap.IsTuple a its.toArray from p) (by simp; omega) fun h' eb=>⟨rfl,I.turned (t':=s.toks) (fun b o hb e=>eb b o hb e) f0 f1 f3 f4 f5⟩
  self:=fun _ _ _ _ _ st h=>wpAny_pyIter_tupleiter st h
theorem turn_range {P:Program} {w:World} {K:PySem.W.Frag} {tg:Expr} (it:Addr) (lo:Int) (n:Nat):Turn P w K tg (Itr lo n) [it] it (fun i h=>IsRangeIter h it (lo + (i:Nat) * 1) ((n:Int) - (i:Nat)) 1) where
  mem:=by simp
  obj:=fun i h st b hb=>by
    have e:b = it:=by simpa using hb
    subst e
    exact ⟨_,st,fun v z=>by
      have z':Data.fields _ = Data.cell v:=z
      cases z'⟩
  keep:=fun i h h' st k=>k it (by simp) _ st
  item:=by
    intro X hP hw hK hc i pins s σ H E I hf st hg
    subst hP hw hK
    obtain ⟨f0,f1,f2,f3,f4,f5⟩:=hf it (by simp)
    have W:=Walks.range (prog:=X.prog) (w:=X.w) (I.ok.hd hc) it lo 1 n
    refine W.item i s _ _ hg st fun v h' tk hv st' kk=>?_
    obtain ⟨t,rfl⟩:=hv
    have I1:Inv X pins σ H { s with heap:=h',toks:=tk }:=I.turned (fun b o hb e=>kk b o (by simpa using hb) e) f0 f1 f3 f4 f5
    refine ⟨_,rfl,go_of (s:={ s with heap:=h',toks:=tk }) (n := "range_iterator") st' rfl rfl (by decide) ⟨.int (lo + i),H,I1,⟨t,?_⟩,⟨rfl,rfl⟩,st',fun b hb=>(hf b hb).1⟩⟩
    rw [Int.mul_one]
  done:=by
    intro X hP hw hK hc i pins s σ H E I hf st hg
    subst hP hw hK
    obtain ⟨f0,f1,f2,f3,f4,f5⟩:=hf it (by simp)
    exact wpAny_pyNext_range_end (I.ok.hd hc) st (by have:n≤i:=hg; omega) fun h' eb=>⟨rfl,I.turned (t':=s.toks) (fun b o hb e=>eb b o hb e) f0 f1 f3 f4 f5⟩
  self:=fun _ _ _ _ _ st h=>wpAny_pyIter_rangeiter st h
end L2
namespace L2
open PySem PySem.Spec PyProof.Rows
section
variable {X:Cx} {tg:Expr}
def iList (K:PySem.W.Frag) (tl:TE):TI:=fun σ H R=>tl σ H fun x H1=>∃ a,x = .ref a∧(∃ xs,SqL K H1 a xs)∧R (Itl K a) H1
def iTup (K:PySem.W.Frag) (tl:TE):TI:=fun σ H R=>tl σ H fun x H1=>∃ a,x = .ref a∧(∃ xs,SqT K H1 a xs)∧R (Itt K a) H1
theorem pi_list {l:Expr} {tl:TE} (hl:PE X l tl):PI X tg l (iList X.K tl):=by
  intro pins s σ H R I h
  refine thn (hl pins s σ H _ I h) fun v s1 ⟨x,H1,I1,r1,q1⟩=>?_
  obtain ⟨a,e,⟨xs,hq⟩,q⟩:=q1
  subst e
  cases r1
  obtain ⟨its,rv,p,hz⟩:=I1.list hq
  refine wpAny_pyIter_list p.isList ?_
  refine ⟨s1.heap.objs.size,[s1.heap.objs.size],_,_,H1,rfl,I1.kept (t':=s1.toks) fun b o e=>Heap.get?_push_of_some _ e,turn_list a _,⟨_,Heap.get?_push_size _ rfl,rfl,rfl⟩,fun b hb=>?_,q⟩
  have e:b = s1.heap.objs.size:=by simpa using hb
  subst e
  exact I1.fpOk (Nat.le_refl _) (I1.hok.fresh (Nat.le_refl _))
theorem pi_tup {l:Expr} {tl:TE} (hl:PE X l tl):PI X tg l (iTup X.K tl):=by
  intro pins s σ H R I h
  refine thn (hl pins s σ H _ I h) fun v s1 ⟨x,H1,I1,r1,q1⟩=>?_
  obtain ⟨a,e,⟨xs,hq⟩,q⟩:=q1
  subst e
  cases r1
  obtain ⟨its,rv,p,hz⟩:=I1.tuple hq
  refine wpAny_pyIter_tuple (show s1.heap.IsTuple a its.toArray from p) ?_
  refine ⟨s1.heap.objs.size,[s1.heap.objs.size],_,_,H1,rfl,I1.kept (t':=s1.toks) fun b o e=>Heap.get?_push_of_some _ e,turn_tuple a _,⟨_,Heap.get?_push_size _ rfl,rfl,rfl⟩,fun b hb=>?_,q⟩
  have e:b = s1.heap.objs.size:=by simpa using hb
  subst e
  exact I1.fpOk (Nat.le_refl _) (I1.hok.fresh (Nat.le_refl _))
theorem range_it {pins:List (Addr × Obj)} {σ:St} {H:Hp} {s:Shared} {R:It→Hp→Prop} {E:Value→Shared→Prop} {lo hi:Int} {t u v:Tok} {tk:Nat} (I:Inv X pins σ H s) (h1:-(2 ^ 62)≤lo) (h2:lo < 2 ^ 62) (h3:-(2 ^ 62)≤hi) (h4:hi < 2 ^ 62)
    (q:R (Itr lo (hi - lo).toNat) H):wpAny (model X.prog X.w) X.A (pyIter (.ref s.heap.objs.size)) (PIE X pins σ tg R) E { s with heap:=s.heap.push { cls:=.type "range", data:=.fields #[.int lo t,.int hi u,.int 1 v] },toks:=tk }:=by
  refine wpAny_pyIter_range (IsRange.new ..) (small_one h1 h2 h3 h4) ?_
  have I1:Inv X pins σ H { s with heap:=s.heap.push { cls:=.type "range", data:=.fields #[.int lo t,.int hi u,.int 1 v] },toks:=tk }:=I.kept fun b o e=>Heap.get?_push_of_some _ e
  refine ⟨(s.heap.push { cls:=.type "range", data:=.fields #[.int lo t,.int hi u,.int 1 v] }).objs.size,[(s.heap.push { cls:=.type "range", data:=.fields #[.int lo t,.int hi u,.int 1 v] }).objs.size],_,_,H,rfl,
    I1.kept (t':=tk) fun b o e=>Heap.get?_push_of_some _ e,turn_range _ lo (hi - lo).toNat,?_,fun b hb=>?_,q⟩
  · have e1:lo + ((0:Nat):Int) * 1 = lo:=by simp
    have e2:(((hi - lo).toNat:Nat):Int) - ((0:Nat):Int) = Builtin.Range.rangeSize lo hi 1:=by rw [rangeSize_one]; split <;> omega
    show IsRangeIter _ _ (lo + ((0:Nat):Int) * 1) ((((hi - lo).toNat:Nat):Int) - ((0:Nat):Int)) 1
    rw [e1,e2]
    exact Heap.get?_push_size _ rfl
  · have e:b = (s.heap.push { cls:=.type "range", data:=.fields #[.int lo t,.int hi u,.int 1 v] }).objs.size:=by simpa using hb
    subst e
    exact I1.fpOk (Nat.le_refl _) (I1.hok.fresh (Nat.le_refl _))
def iRng1 (ta:TA):TI:=fun σ H R=>ta σ H fun vs H1=>∃ j:Int,vs = [.int j]∧-(2 ^ 62)≤j∧j < 2 ^ 62∧R (Itr 0 j.toNat) H1
def iRng2 (ta:TA):TI:=fun σ H R=>ta σ H fun vs H1=>∃ i j:Int,vs = [.int i,.int j]∧(-(2 ^ 62)≤i∧i < 2 ^ 62∧-(2 ^ 62)≤j∧j < 2 ^ 62)∧R (Itr i (j - i).toNat) H1
theorem pi_range1 {a:Expr} {ta:TA} {p pos:Pos} (hg:Gl X "range") (hm:X.mg "range" = none) (ha:PA X [a] ta) (hs:starEach [a] X.env = [(false,eval a X.env)]:=by rfl):PI X tg (.Call (.Name "range" p) [a] [] pos) (iRng1 ta):=by
  intro pins s σ H R I h
  refine Call_ (ld_blt I hg hm boot_range (PyProof.Rows.callWith_type1 (thn (ha pos pins s σ H _ I h) fun us s1 ⟨vs,H1,I1,r1,q1⟩=>?_) hs rfl))
  obtain ⟨j,e,q1,q2,q⟩:=q1
  subst e
  cases r1 with
  | cons r rr =>
    cases rr
    obtain ⟨t,rfl⟩:=r
    exact call_range_1 (range_it I1 (by omega) (by omega) q1 q2 (by simpa using q))
theorem pi_range2 {a b:Expr} {ta:TA} {p pos:Pos} (hg:Gl X "range") (hm:X.mg "range" = none) (ha:PA X [a,b] ta) (hs:starEach [a,b] X.env = [(false,eval a X.env),(false,eval b X.env)]:=by rfl) (hs2:starEach [b] X.env = [(false,eval b X.env)]:=by rfl) :
    PI X tg (.Call (.Name "range" p) [a,b] [] pos) (iRng2 ta):=by
  intro pins s σ H R I h
  refine Call_ (ld_blt I hg hm boot_range (PyProof.Rows.callWith_type1 (thn (ha pos pins s σ H _ I h) fun us s1 ⟨vs,H1,I1,r1,q1⟩=>?_) (by rw [hs,hs2]) (by rw [hs2]; rfl)))
  obtain ⟨i,j,e,⟨q1,q2,q3,q4⟩,q⟩:=q1
  subst e
  cases r1 with
  | cons r rr =>
    cases rr with
    | cons r' rr =>
      cases rr
      obtain ⟨t,rfl⟩:=r
      obtain ⟨t',rfl⟩:=r'
      exact call_range_2 (range_it I1 q1 q2 q3 q4 q)
def tFor (wi:TI) (g:TG) (tb:TS):TS:=fun D σ H=>wi σ H fun J H1=>∃ W:Nat→Nat→St→Hp→Prop,(∃ m,W 0 m σ H1)∧∀ i m σ H,W i m σ H →
  (J.stop i H∧D.nx σ H)∨(J.go i H∧∃ N:St→Hp→Prop,(∀ σ' H',N σ' H'→∃ m',m' < m∧W (i + 1) m' σ' H')∧∀ x H',J.yld i H x H'→g x σ H' fun σ2 H2=>tb { D with nx:=N,ct:=N,bk:=D.nx } σ2 H2)
def pinsAt (fp:List Addr) (h:Heap):List (Addr × Obj):=fp.filterMap fun b=>(h.get? b).map fun o=>(b,o)
theorem mem_pinsAt {fp:List Addr} {h:Heap} {b:Addr} {o:Obj} (hb:b∈fp) (e:h.get? b = some o):(b,o)∈pinsAt fp h:=List.mem_filterMap.mpr ⟨b,hb,by rw [e]; rfl⟩
theorem of_pinsAt {fp:List Addr} {h:Heap} {p:Addr × Obj} (hp:p∈pinsAt fp h):p.1∈fp∧h.get? p.1 = some p.2:=by
  obtain ⟨b,hb,e⟩:=List.mem_filterMap.mp hp
  cases q:h.get? b with
  | none=>rw [q] at e; cases e
  | some o =>
    rw [q] at e
    have e':(b,o) = p:=Option.some.inj e
    subst e'
    exact ⟨hb,q⟩
theorem Inv.pinned {pins:List (Addr × Obj)} {σ:St} {H:Hp} {s:Shared} {fp:List Addr} (I:Inv X pins σ H s) (hf:∀ b∈fp,FpOk X pins H b) (ho:∀ b∈fp,∃ o,s.heap.get? b = some o∧∀ v,o.data≠.cell v):Inv X (pins ++ pinsAt fp s.heap) σ H s :=
  I.pins_of fun p hp=>(List.mem_append.mp hp).elim (fun z=>I.pin p (List.mem_append_right _ z)) fun z=>by
    obtain ⟨hb,e⟩:=of_pinsAt z
    obtain ⟨f0,f1,f2,_⟩:=hf p.1 hb
    obtain ⟨o,e',d⟩:=ho p.1 hb
    rw [e] at e'; cases e'
    exact ⟨e,f0,f1,f2,d⟩
theorem Inv.unpinned {pins pl:List (Addr × Obj)} {σ:St} {H:Hp} {s:Shared} (I:Inv X (pins ++ pl) σ H s):Inv X pins σ H s:=I.pins_of fun p hp=>I.pin p (List.mem_append_right _ (List.mem_append_left _ hp))
theorem ps_for {iter:Expr} {body:List Stmt} {wi:TI} {g:TG} {tb:TS} {pos:Pos} (hp:PassesOwn (model X.prog X.w) X.A X.env X.xe) (hc:X.calm = true) (hi:PI X tg iter wi) (hg:PG X tg g) (hb:PSs X body tb)
    (hs:∀ x,foldedSetIterable iter X.env x = pure x:=by intro _; rfl):PS X (.For tg iter body [] pos) (tFor wi g tb):=by
  intro pins s σ H D I h
  refine wpAny_For (thn (hi pins s σ H _ I h) fun v s1 h1=>thn h1 fun itv s2 h2=>?_) hs
  obtain ⟨it,fp,tn,J,H2,e,I2,T,st2,f2,W,⟨m0,w0⟩,turn⟩:=h2
  subst e
  have stat:∀ {H':Hp},(∀ b∈fp,H' b = none)→∀ b∈fp,FpOk X pins H' b:=fun hn b hb=>⟨hn b hb,(f2 b hb).2⟩
  refine codeAny_forLoop_any (fun n s'=>∃ i σ' H',Inv X pins σ' H' s'∧tn i s'.heap∧(∀ b∈fp,H' b = none)∧W i n σ' H') ?_ m0 ⟨0,σ,H2,I2,st2,fun b hb=>(f2 b hb).1,w0⟩
  rintro n s3 ⟨i,σ3,H3,I3,st3,fr3,w3⟩
  rcases turn i n σ3 H3 w3 with ⟨stop,qn⟩ | ⟨go,N,hN,step⟩
  · refine wpAny_passesOwn hp (thn (T.done X rfl rfl rfl hc i pins s3 σ3 H3 X.xe I3 (stat fr3) st3 stop) fun r s4 ⟨hr,I4⟩=>?_)
    subst hr
    exact wpAny_execs_nil ⟨σ3,H3,I4,qn⟩
  · refine wpAny_passesOwn hp (thn (T.item X rfl rfl rfl hc i pins s3 σ3 H3 X.xe I3 (stat fr3) st3 go) fun r s4 ⟨u,hr,h4⟩=>?_)
    subst hr
    refine wpAny_passesOwn hp (thn h4 fun _ s5 ⟨x,H5,I5,r5,y5,st5,fr5⟩=>?_)
    have I5':=I5.pinned (stat fr5) (T.obj _ _ st5)
    refine wpAny_passesOwn hp (thn (hg _ s5 σ3 H5 x u _ I5' r5 (step x H5 y5)) fun _ s6 ⟨σ6,H6,I6,q6⟩=>?_)
    refine wpAny_passesOwn hp (thn (hb _ s6 σ6 H6 _ I6 q6) fun f s7 q7=>?_)
    have again:∀ {σ7:St} {H7:Hp},Inv X (pins ++ pinsAt fp s5.heap) σ7 H7 s7→N σ7 H7→∃ m,m < n∧∃ i σ' H',Inv X pins σ' H' s7∧tn i s7.heap∧(∀ b∈fp,H' b = none)∧W i m σ' H':=fun {σ7 H7} I7 n7=>by
      obtain ⟨m',hm,w7⟩:=hN σ7 H7 n7
      refine ⟨m',hm,i + 1,σ7,H7,I7.unpinned,T.keep _ _ _ st5 fun b hb o e=>(I7.pin (b,o) (List.mem_append_right _ (List.mem_append_right _ (mem_pinsAt hb e)))).1,fun b hb=>?_,w7⟩
      obtain ⟨o,e,d⟩:=T.obj _ _ st5 b hb
      exact (I7.pin (b,o) (List.mem_append_right _ (List.mem_append_right _ (mem_pinsAt hb e)))).2.1
    cases f with
    | next=>obtain ⟨σ7,H7,I7,n7⟩:=q7; exact again I7 n7
    | cont=>obtain ⟨σ7,H7,I7,n7⟩:=q7; exact again I7 n7
    | brk=>obtain ⟨σ7,H7,I7,q7⟩:=q7; exact ⟨σ7,H7,I7.unpinned,q7⟩
    | ret v=>obtain ⟨x7,σ7,H7,I7,r7,q7⟩:=q7; exact ⟨x7,σ7,H7,I7.unpinned,r7,q7⟩
end
theorem for_list {K:PySem.W.Frag} {a:Addr} {xs:List V} {g:TG} {tb:TS} {D:Ends} {σ:St} {H:Hp} (Pv:Nat→St→Hp→Prop) (h0:Pv 0 σ H) (hl:∀ i σ H,i≤xs.length→Pv i σ H→SqL K H a xs)
    (hs:∀ i x σ H,xs[i]? = some x→Pv i σ H→g x σ H fun σ2 H2=>tb { D with nx:=Pv (i + 1),ct:=Pv (i + 1),bk:=D.nx } σ2 H2) (hd:∀ σ H,Pv xs.length σ H→D.nx σ H) :
    ∃ W:Nat→Nat→St→Hp→Prop,(∃ m,W 0 m σ H)∧∀ i m σ H,W i m σ H →
      ((Itl K a).stop i H∧D.nx σ H)∨((Itl K a).go i H∧∃ N:St→Hp→Prop,(∀ σ' H',N σ' H'→∃ m',m' < m∧W (i + 1) m' σ' H')∧∀ x H',(Itl K a).yld i H x H'→g x σ H' fun σ2 H2=>tb { D with nx:=N,ct:=N,bk:=D.nx } σ2 H2):=by
  refine ⟨fun i m σ H=>m = xs.length - i∧i≤xs.length∧Pv i σ H,⟨xs.length,by simp,Nat.zero_le _,h0⟩,?_⟩
  rintro i m σ H ⟨rfl,hi,p⟩
  have q:=hl i σ H hi p
  by_cases hlt:i < xs.length
  · refine .inr ⟨⟨xs,xs[i],q,by simp [hlt]⟩,Pv (i + 1),fun σ' H' p'=>⟨xs.length - (i + 1),by omega,rfl,hlt,p'⟩,fun x H' y=>?_⟩
    obtain ⟨e,y⟩:=y
    subst e
    exact hs i x σ _ (y xs q) p
  · have e:i = xs.length:=by omega
    subst e
    exact .inl ⟨⟨xs,q,Nat.le_refl _⟩,hd σ H p⟩
theorem for_range {lo:Int} {n:Nat} {g:TG} {tb:TS} {D:Ends} {σ:St} {H:Hp} (Pv:Nat→St→Hp→Prop) (h0:Pv 0 σ H)
    (hs:∀ i σ H,i < n→Pv i σ H→g (.int (lo + i)) σ H fun σ2 H2=>tb { D with nx:=Pv (i + 1),ct:=Pv (i + 1),bk:=D.nx } σ2 H2) (hd:∀ σ H,Pv n σ H→D.nx σ H) :
    ∃ W:Nat→Nat→St→Hp→Prop,(∃ m,W 0 m σ H)∧∀ i m σ H,W i m σ H →
      ((Itr lo n).stop i H∧D.nx σ H)∨((Itr lo n).go i H∧∃ N:St→Hp→Prop,(∀ σ' H',N σ' H'→∃ m',m' < m∧W (i + 1) m' σ' H')∧∀ x H',(Itr lo n).yld i H x H'→g x σ H' fun σ2 H2=>tb { D with nx:=N,ct:=N,bk:=D.nx } σ2 H2):=by
  refine ⟨fun i m σ H=>m = n - i∧i≤n∧Pv i σ H,⟨n,by simp,Nat.zero_le _,h0⟩,?_⟩
  rintro i m σ H ⟨rfl,hi,p⟩
  by_cases hlt:i < n
  · refine .inr ⟨hlt,Pv (i + 1),fun σ' H' p'=>⟨n - (i + 1),by omega,rfl,hlt,p'⟩,fun x H' y=>?_⟩
    obtain ⟨e,y⟩:=y
    subst e y
    exact hs i σ _ hlt p
  · have e:i = n:=by omega
    subst e
    exact .inl ⟨Nat.le_refl _,hd σ H p⟩
end L2
namespace L2
open PySem PySem.Spec PyProof.Rows
abbrev R2:=V→V→Hp→VK→Prop
def OpR (X:Cx) (f:Value→Value→Sem Value) (r:R2):Prop :=
  ∀ (pins:List (Addr × Obj)) (s:Shared) (σ:St) (H:Hp) (x y:V) (v u:Value) (Q:VK),Inv X pins σ H s→RelV x v→RelV y u→r x y H Q →
    wpAny (model X.prog X.w) X.A (f v u) (EP X pins σ Q) X.xe s
def UnR (X:Cx) (f:Value→Sem Value) (r:V→Hp→VK→Prop):Prop :=
  ∀ (pins:List (Addr × Obj)) (s:Shared) (σ:St) (H:Hp) (x:V) (v:Value) (Q:VK),Inv X pins σ H s→RelV x v→r x H Q →
    wpAny (model X.prog X.w) X.A (f v) (EP X pins σ Q) X.xe s
def CallR (X:Cx) (f:Value) (r:List V→Hp→VK→Prop):Prop :=
  ∀ (pins:List (Addr × Obj)) (s:Shared) (σ:St) (H:Hp) (xs:List V) (us:List Value) (Q:VK),Inv X pins σ H s→Vals xs us→r xs H Q →
    wpAny (model X.prog X.w) X.A (call f us) (EP X pins σ Q) X.xe s
def TruR (X:Cx) (r:V→Hp→(Bool→Hp→Prop)→Prop):Prop :=
  ∀ (pins:List (Addr × Obj)) (s:Shared) (σ:St) (H:Hp) (x:V) (v:Value) (Q:Bool→Hp→Prop),Inv X pins σ H s→RelV x v→r x H Q →
    wpAny (model X.prog X.w) X.A (truthy v) (TP X pins σ Q) X.xe s
def tOp (r:R2) (ta tb:TE):TE:=fun σ H Q=>ta σ H fun x H1=>tb σ H1 fun y H2=>r x y H2 Q
def tUn (r:V→Hp→VK→Prop) (ta:TE):TE:=fun σ H Q=>ta σ H fun x H1=>r x H1 Q
def rI (C:Int→Int→Prop) (g:Int→Int→V):R2:=fun x y H Q=>∃ i j,x = .int i∧y = .int j∧C i j∧Q (g i j) H
def rI0 (g:Int→Int→V):R2:=fun x y H Q=>∃ i j,x = .int i∧y = .int j∧Q (g i j) H
def rU (g:Int→V):V→Hp→VK→Prop:=fun x H Q=>∃ i,x = .int i∧Q (g i) H
section
variable {X:Cx} {a b c:Expr} {ta tb tc:TE} {pos:Pos}
theorem binT (ha:PE X a ta) (hb:PE X b tb) {pins:List (Addr × Obj)} {s:Shared} {σ:St} {H:Hp} {R:V→V→Hp→Prop} (I:Inv X pins σ H s)
    (h:ta σ H fun x H1=>tb σ H1 fun y H2=>R x y H2) {Q:Value→Shared→Prop} {f:Value→Value→Sem Value}
    (hf:∀ v u s2 x y H2,Inv X pins σ H2 s2→RelV x v→RelV y u→R x y H2→wpAny (model X.prog X.w) X.A (f v u) Q X.xe s2) :
    wpAny (model X.prog X.w) X.A (eval a X.env) (fun v s₁=>wpAny (model X.prog X.w) X.A (eval b X.env) (fun u s₂=>wpAny (model X.prog X.w) X.A (f v u) Q X.xe s₂) X.xe s₁) X.xe s:=by
  refine thn (ha pins s σ H _ I h) fun v s1 ⟨x,H1,I1,r1,q1⟩=>?_
  refine thn (hb pins s1 σ H1 _ I1 q1) fun u s2 ⟨y,H2,I2,r2,q2⟩=>?_
  exact hf v u s2 x y H2 I2 r1 r2 q2
theorem pe_op {op:Operator} {r:R2} (ho:OpR X (binaryOp op) r) (ha:PE X a ta) (hb:PE X b tb):PE X (.BinOp a op b pos) (tOp r ta tb):=by
  intro pins s σ H Q I h
  exact wpAny_BinOp (binT ha hb I h fun v u s2 x y H2 I2 rx ry q=>ho pins s2 σ H2 x y v u Q I2 rx ry q)
theorem pe_un {op:UnaryOp} {r:V→Hp→VK→Prop} (ho:UnR X (unaryOp op) r) (ha:PE X a ta):PE X (.UnaryOp op a pos) (tUn r ta):=by
  intro pins s σ H Q I h
  exact UnaryOp_ (thn (ha pins s σ H _ I h) fun v s1 ⟨x,H1,I1,r1,q1⟩=>ho pins s1 σ H1 x v Q I1 r1 q1)
theorem opI {f:Value→Value→Sem Value} {C:Int→Int→Prop} {g:Int→Int→Int}
    (rule:∀ (i j:Int) (t u:Tok) (s:Shared) (Q:Value→Shared→Prop) (E:Value→Shared→Prop),C i j→Q (.int (g i j) s.toks) { s with toks:=s.toks + 1 }→wpAny (model X.prog X.w) X.A (f (.int i t) (.int j u)) Q E s) :
    OpR X f (rI C fun i j=>.int (g i j)):=by
  intro pins s σ H x y v u Q I rx ry h
  obtain ⟨i,j,rfl,rfl,hc,q⟩:=h
  obtain ⟨t,rfl⟩:=rx
  obtain ⟨t',rfl⟩:=ry
  exact rule i j t t' s _ _ hc ⟨.int (g i j),H,I.tok _,⟨_,rfl⟩,q⟩
theorem opI0 {f:Value→Value→Sem Value} {g:Int→Int→Int}
    (rule:∀ (i j:Int) (t u:Tok) (s:Shared) (Q:Value→Shared→Prop) (E:Value→Shared→Prop),Q (.int (g i j) s.toks) { s with toks:=s.toks + 1 }→wpAny (model X.prog X.w) X.A (f (.int i t) (.int j u)) Q E s) :
    OpR X f (rI0 fun i j=>.int (g i j)):=by
  intro pins s σ H x y v u Q I rx ry h
  obtain ⟨i,j,rfl,rfl,q⟩:=h
  obtain ⟨t,rfl⟩:=rx
  obtain ⟨t',rfl⟩:=ry
  exact rule i j t t' s _ _ ⟨.int (g i j),H,I.tok _,⟨_,rfl⟩,q⟩
theorem opB0 {f:Value→Value→Sem Value} {g:Int→Int→Bool}
    (rule:∀ (i j:Int) (t u:Tok) (s:Shared) (Q:Value→Shared→Prop) (E:Value→Shared→Prop),Q (.bool (g i j)) s→wpAny (model X.prog X.w) X.A (f (.int i t) (.int j u)) Q E s) :
    OpR X f (rI0 fun i j=>.bl (g i j)):=by
  intro pins s σ H x y v u Q I rx ry h
  obtain ⟨i,j,rfl,rfl,q⟩:=h
  obtain ⟨t,rfl⟩:=rx
  obtain ⟨t',rfl⟩:=ry
  exact rule i j t t' s _ _ ⟨.bl (g i j),H,I,rfl,q⟩
def CDiv (i j:Int):Prop:=0 < j∧j < 1073741824
def CPow (i j:Int):Prop:=0≤j∧j≤1000000∧i.natAbs < 2 ^ 64
def CMul (i j:Int):Prop:=(-(2 ^ 64) < i∧i < 2 ^ 64)∨(-(2 ^ 64) < j∧j < 2 ^ 64)
theorem CMul.ok {i j:Int} (h:CMul i j):IntMulOk i j:=by
  rcases h with ⟨h1,h2⟩ | ⟨h1,h2⟩
  · exact .of_left (intBits_le_64 h1 h2)
  · exact .of_right (intBits_le_64 h1 h2)
theorem two_pow_nn (k:Nat):(0:Int)≤2 ^ k:=by
  rw [two_pow_cast]
  exact Int.natCast_nonneg _
theorem op_add:OpR X (binaryOp .Add) (rI0 fun i j=>.int (i + j)):=opI0 fun _ _ _ _ _ _ _ q=>add_int q
theorem op_sub:OpR X (binaryOp .Sub) (rI0 fun i j=>.int (i - j)):=opI0 fun _ _ _ _ _ _ _ q=>sub_int q
theorem op_mul:OpR X (binaryOp .Mult) (rI CMul fun i j=>.int (i * j)):=opI fun _ _ _ _ _ _ _ hc q=>mul_int q hc.ok
theorem op_fdiv:OpR X (binaryOp .FloorDiv) (rI CDiv fun i j=>.int (i / j)):=opI fun i j _ _ _ _ _ hc q=>by
  have h1:(0:Int) < j:=hc.1
  have h2:j < 1073741824:=hc.2
  exact floordiv_int (by omega) (by rw [Int.fdiv_eq_ediv_of_nonneg i (by omega)]; exact q) (.inl (PyProof.noPylong_small (by omega)))
theorem op_mod:OpR X (binaryOp .Mod) (rI (fun _ j=>0 < j) fun i j=>.int (i % j)):=opI fun i j _ _ _ _ _ hc q=>by
  have h1:(0:Int) < j:=hc
  exact mod_int' (by omega) (by rw [Int.fmod_eq_emod_of_nonneg i (by omega)]; exact q)
theorem op_pow:OpR X (binaryOp .Pow) (rI CPow fun i j=>.int (i ^ j.toNat)):=opI fun _ _ _ _ _ _ _ hc q=>pow_int_small hc.1 hc.2.1 hc.2.2 q
theorem op_shr:OpR X (binaryOp .RShift) (rI (fun _ j=>0≤j) fun i j=>.int (i / 2 ^ j.toNat)):=opI fun i j _ _ _ _ _ hc q =>
  rshift_int hc (by rw [Int.fdiv_eq_ediv_of_nonneg i (two_pow_nn _)]; exact q)
theorem op_and:OpR X (binaryOp .BitAnd) (rI0 fun i j=>.int (Builtin.bitAnd i j)):=opI0 fun _ _ _ _ _ _ _ q=>and_int q
theorem op_or:OpR X (binaryOp .BitOr) (rI0 fun i j=>.int (Builtin.bitOr i j)):=opI0 fun _ _ _ _ _ _ _ q=>or_int q
theorem op_xor:OpR X (binaryOp .BitXor) (rI0 fun i j=>.int (Builtin.bitXor i j)):=opI0 fun _ _ _ _ _ _ _ q=>xor_int q
theorem iop_add:OpR X (inplaceOp .Add) (rI0 fun i j=>.int (i + j)):=opI0 fun _ _ _ _ _ _ _ q=>iadd_int q
theorem unI {f:Value→Sem Value} {g:Int→Int}
    (rule:∀ (i:Int) (t:Tok) (s:Shared) (Q:Value→Shared→Prop) (E:Value→Shared→Prop),Q (.int (g i) s.toks) { s with toks:=s.toks + 1 }→wpAny (model X.prog X.w) X.A (f (.int i t)) Q E s) :
    UnR X f (rU fun i=>.int (g i)):=by
  intro pins s σ H x v Q I rx h
  obtain ⟨i,rfl,q⟩:=h
  obtain ⟨t,rfl⟩:=rx
  exact rule i t s _ _ ⟨.int (g i),H,I.tok _,⟨_,rfl⟩,q⟩
theorem un_neg:UnR X (unaryOp .USub) (rU fun i=>.int (-i)):=unI fun _ _ _ _ _ q=>neg_int q
end
def scal:V→V→Bool
  | .non,.non=>true | .non,.int _=>true | .int _,.non=>true | .non,.bl _=>true | .bl _,.non=>true | .non,.str _=>true | .str _,.non=>true
  | .int _,.int _=>true | .bl _,.bl _=>true | .str _,.str _=>true | .byt _,.byt _=>true
  | .int _,.str _=>true | .str _,.int _=>true | .bl _,.str _=>true | .str _,.bl _=>true
  | _,_=>false
def rEq:R2:=fun x y H Q=>scal x y = true∧Q (.bl (decide (x = y))) H
def rNe:R2:=fun x y H Q=>scal x y = true∧Q (.bl (!decide (x = y))) H
theorem dec_int {i j:Int}:decide (V.int i = V.int j) = (i == j):=by
  rw [Bool.eq_iff_iff]
  simp
theorem dec_bl {i j:Bool}:decide (V.bl i = V.bl j) = (i == j):=by
  rw [Bool.eq_iff_iff]
  simp
theorem dec_str {i j:Str}:decide (V.str i = V.str j) = (i == j):=by
  rw [Bool.eq_iff_iff]
  simp
theorem dec_byt {i j:Array UInt8}:decide (V.byt i = V.byt j) = (i.toList == j.toList):=by
  rw [Bool.eq_iff_iff]
  cases i
  cases j
  simp
section
variable {X:Cx} {a b c:Expr} {ta tb tc:TE} {pos:Pos}
theorem fin_bl {pins:List (Addr × Obj)} {σ:St} {H:Hp} {s:Shared} {Q:VK} {k k':Bool} (I:Inv X pins σ H s) (q:Q (.bl k) H) (e:k = k'):EP X pins σ Q (.bool k') s:=by
  subst e
  exact ⟨.bl k,H,I,rfl,q⟩
theorem op_eq:OpR X (compareOp .Eq) rEq:=by
  intro pins s σ H x y v u Q I rx ry h
  obtain ⟨hs,q⟩:=h
  cases x with
  | non =>
    cases rx
    cases y with
    | non=>cases ry; exact PySem.EqNone.eq_none_none (fin_bl I q (by simp))
    | bl j=>cases ry; exact PySem.EqNone.eq_none_bool (fin_bl I q (by simp))
    | int j=>obtain ⟨t',rfl⟩:=ry; exact PySem.EqNone.eq_none_int (fin_bl I q (by simp))
    | str j=>obtain ⟨t',rfl⟩:=ry; exact PySem.EqNone.eq_none_str (fin_bl I q (by simp))
    | _=>exact absurd (show false = true from hs) Bool.false_ne_true
  | bl i =>
    cases rx
    cases y with
    | non=>cases ry; exact PySem.EqNone.eq_bool_none (fin_bl I q (by simp))
    | bl j=>cases ry; exact eq_bool (fin_bl I q dec_bl)
    | str j=>obtain ⟨t',rfl⟩:=ry; exact PySem.EqMixed.eq_bool_str (fin_bl I q (by simp))
    | _=>exact absurd (show false = true from hs) Bool.false_ne_true
  | int i =>
    obtain ⟨t,rfl⟩:=rx
    cases y with
    | non=>cases ry; exact PySem.EqNone.eq_int_none (fin_bl I q (by simp))
    | int j=>obtain ⟨t',rfl⟩:=ry; exact eq_int (fin_bl I q dec_int)
    | str j=>obtain ⟨t',rfl⟩:=ry; exact PySem.EqMixed.eq_int_str (fin_bl I q (by simp))
    | _=>exact absurd (show false = true from hs) Bool.false_ne_true
  | str i =>
    obtain ⟨t,rfl⟩:=rx
    cases y with
    | non=>cases ry; exact PySem.EqNone.eq_str_none (fin_bl I q (by simp))
    | bl j=>cases ry; exact PySem.EqMixed.eq_str_bool (fin_bl I q (by simp))
    | int j=>obtain ⟨t',rfl⟩:=ry; exact PySem.EqMixed.eq_str_int (fin_bl I q (by simp))
    | str j=>obtain ⟨t',rfl⟩:=ry; exact eq_str (fin_bl I q dec_str)
    | _=>exact absurd (show false = true from hs) Bool.false_ne_true
  | byt i =>
    obtain ⟨t,rfl⟩:=rx
    cases y with
    | byt j=>obtain ⟨t',rfl⟩:=ry; exact PySem.W.eq_bytes (fin_bl I q dec_byt)
    | _=>exact absurd (show false = true from hs) Bool.false_ne_true
  | _=>cases y <;> exact absurd (show false = true from hs) Bool.false_ne_true
theorem op_ne:OpR X (compareOp .NotEq) rNe:=by
  intro pins s σ H x y v u Q I rx ry h
  obtain ⟨hs,q⟩:=h
  cases x with
  | non =>
    cases rx
    cases y with
    | non=>cases ry; exact PySem.EqNone.ne_none_none (fin_bl I q (by simp))
    | bl j=>cases ry; exact PySem.EqNone.ne_none_bool (fin_bl I q (by simp))
    | int j=>obtain ⟨t',rfl⟩:=ry; exact PySem.EqNone.ne_none_int (fin_bl I q (by simp))
    | str j=>obtain ⟨t',rfl⟩:=ry; exact PySem.EqNone.ne_none_str (fin_bl I q (by simp))
    | _=>exact absurd (show false = true from hs) Bool.false_ne_true
  | bl i =>
    cases rx
    cases y with
    | non=>cases ry; exact PySem.EqNone.ne_bool_none (fin_bl I q (by simp))
    | bl j=>cases ry; exact ne_bool (fin_bl I q (congrArg not dec_bl))
    | str j=>obtain ⟨t',rfl⟩:=ry; exact PySem.EqMixed.ne_bool_str (fin_bl I q (by simp))
    | _=>exact absurd (show false = true from hs) Bool.false_ne_true
  | int i =>
    obtain ⟨t,rfl⟩:=rx
    cases y with
    | non=>cases ry; exact PySem.EqNone.ne_int_none (fin_bl I q (by simp))
    | int j=>obtain ⟨t',rfl⟩:=ry; exact ne_int (fin_bl I q (congrArg not dec_int))
    | str j=>obtain ⟨t',rfl⟩:=ry; exact PySem.EqMixed.ne_int_str (fin_bl I q (by simp))
    | _=>exact absurd (show false = true from hs) Bool.false_ne_true
  | str i =>
    obtain ⟨t,rfl⟩:=rx
    cases y with
    | non=>cases ry; exact PySem.EqNone.ne_str_none (fin_bl I q (by simp))
    | bl j=>cases ry; exact PySem.EqMixed.ne_str_bool (fin_bl I q (by simp))
    | int j=>obtain ⟨t',rfl⟩:=ry; exact PySem.EqMixed.ne_str_int (fin_bl I q (by simp))
    | str j=>obtain ⟨t',rfl⟩:=ry; exact ne_str (fin_bl I q (congrArg not dec_str))
    | _=>exact absurd (show false = true from hs) Bool.false_ne_true
  | byt i =>
    obtain ⟨t,rfl⟩:=rx
    cases y with
    | byt j=>obtain ⟨t',rfl⟩:=ry; exact PySem.W.ne_bytes (fin_bl I q (congrArg not dec_byt))
    | _=>exact absurd (show false = true from hs) Bool.false_ne_true
  | _=>cases y <;> exact absurd (show false = true from hs) Bool.false_ne_true
theorem op_lt:OpR X (compareOp .Lt) (rI0 fun i j=>.bl (decide (i < j))):=opB0 fun _ _ _ _ _ _ _ q=>lt_int q
theorem op_gt:OpR X (compareOp .Gt) (rI0 fun i j=>.bl (decide (j < i))):=opB0 fun _ _ _ _ _ _ _ q=>gt_int q
theorem op_ge:OpR X (compareOp .GtE) (rI0 fun i j=>.bl (decide (j≤i))):=opB0 fun _ _ _ _ _ _ _ q=>ge_int q
theorem op_isN:OpR X (compareOp .Is) (fun x y H Q=>y = .non∧Q (.bl (decide (x = .non))) H):=by
  intro pins s σ H x y v u Q I rx ry h
  obtain ⟨rfl,q⟩:=h
  cases ry
  refine is_none_gen (fin_bl I q ?_)
  cases x <;> first
    | (cases rx; rfl)
    | (obtain ⟨t,rfl⟩:=rx; rfl)
theorem nomark (b:Expr) {op:CmpOp} (h:op≠.In:=by decide) (h2:op≠.NotIn:=by decide):behindInMarks op b = false:=by
  have e1:(op == CmpOp.In) = false:=by cases op <;> first | rfl | exact absurd rfl h
  have e2:(op == CmpOp.NotIn) = false:=by cases op <;> first | rfl | exact absurd rfl h2
  cases b <;> simp [behindInMarks,e1,e2]
theorem pe_cmpR {op:CmpOp} {r:R2} (ho:OpR X (compareOp op) r) (ha:PE X a ta) (hb:PE X b tb) (hm:behindInMarks op b = false):PE X (.Compare a [op] [b] pos) (tOp r ta tb):=by
  intro pins s σ H Q I h
  exact wpAny_Compare1 (binT ha hb I h fun v u s2 x y H2 I2 rx ry q=>ho pins s2 σ H2 x y v u Q I2 rx ry q) hm
inductive OneB (x:V) (k:Bool→Prop):Prop
  | mk (c:Bool) (_:x = .bl c) (_:k c):OneB x k
def tTest (t:TE):TT:=fun σ H Q=>t σ H fun x H'=>OneB x fun k=>Q k H'
theorem pt_cmpR {op:CmpOp} {r:R2} (ho:OpR X (compareOp op) r) (ha:PE X a ta) (hb:PE X b tb) (hm:behindInMarks op b = false):PT X (.Compare a [op] [b] pos) (tTest (tOp r ta tb)):=by
  intro pins s σ H Q I h
  refine wpAny_isTrue_Compare1 (thn (ha pins s σ H _ I h) fun v s1 ⟨x,H1,I1,r1,q1⟩=>thn (hb pins s1 σ H1 _ I1 q1) fun u s2 ⟨y,H2,I2,r2,q2⟩ =>
    thn (ho pins s2 σ H2 x y v u _ I2 r1 r2 q2) fun c s3 ⟨z,H3,I3,r3,k,e,q3⟩=>?_) hm
  subst e
  cases r3
  exact wpAny_truthy_bool ⟨H3,I3,q3⟩
def TruV (K:PySem.W.Frag) (x:V) (H:Hp) (k:Bool):Prop :=
  match x with
  | .non=>k = false
  | .bl b=>k = b
  | .int i=>k = (i != 0)
  | .str y=>y.length≤sizeLine∧k = ((y.length:Int) != 0)
  | .byt y=>y.size≤sizeLine∧k = ((y.size:Int) != 0)
  | .ref p=>(∃ xs,SqL K H p xs∧k = !xs.isEmpty)∨(∃ xs,SqT K H p xs∧k = !xs.isEmpty)∨∃ kvs,H p = some (.dK kvs)∧k = !kvs.isEmpty
  | _=>False
theorem isEmpty_kv {κ:Type} {kvs:List (κ × V)} {vs:List (κ × Value)} (r:KV kvs vs):(!vs.isEmpty) = !kvs.isEmpty:=by
  cases r <;> rfl
theorem isEmpty_of {xs:List V} {its:List Value} (r:Vals xs its):(!its.toArray.isEmpty) = !xs.isEmpty:=by
  cases r <;> simp
theorem line63:(sizeLine:Nat) < 2 ^ 63:=by rw [sizeLine_eq]; decide
theorem tru_ok:TruR X (fun x H Q=>∃ k,TruV X.K x H k∧Q k H):=by
  intro pins s σ H x v Q I rx h
  obtain ⟨k,e,q⟩:=h
  have hl:=line63
  have hs:sizeLine = 16777216:=sizeLine_eq
  cases x with
  | non =>
    cases rx
    have e':k = false:=e
    subst e'
    exact truthy_none ⟨H,I,q⟩
  | bl b =>
    cases rx
    have e':k = b:=e
    subst e'
    exact wpAny_truthy_bool ⟨H,I,q⟩
  | int i =>
    obtain ⟨t,rfl⟩:=rx
    have e':k = (i != 0):=e
    subst e'
    exact PySem.P.truthy_int ⟨H,I,q⟩
  | str y =>
    obtain ⟨t,rfl⟩:=rx
    obtain ⟨hy,e'⟩:y.length≤sizeLine∧k = ((y.length:Int) != 0):=e
    subst e'
    exact PySem.P.truthy_str (by omega) ⟨H,I.tok _,q⟩
  | byt y =>
    obtain ⟨t,rfl⟩:=rx
    obtain ⟨hy,e'⟩:y.size≤sizeLine∧k = ((y.size:Int) != 0):=e
    subst e'
    exact PySem.W.truthy_bytes (by omega) ⟨H,I.tok _,q⟩
  | ref p =>
    cases rx
    have e':(∃ xs,SqL X.K H p xs∧k = !xs.isEmpty)∨(∃ xs,SqT X.K H p xs∧k = !xs.isEmpty)∨∃ kvs,H p = some (.dK kvs)∧k = !kvs.isEmpty:=e
    rcases e' with ⟨xs,hx,e'⟩ | ⟨xs,hx,e'⟩ | ⟨kvs,hx,e'⟩
    · subst e'
      obtain ⟨its,r,pl,hz⟩:=I.list hx
      have hlen:=r.length
      exact wpAny_truthy_list pl.isList (by simp only [List.size_toArray]; omega) ⟨H,I.tok _,by rw [isEmpty_of r]; exact q⟩
    · subst e'
      obtain ⟨its,r,pl,hz⟩:=I.tuple hx
      have hlen:=r.length
      exact truthy_tuple pl (by simp only [List.size_toArray]; omega) ⟨H,I.tok _,by rw [isEmpty_of r]; exact q⟩
    · subst e'
      obtain ⟨hz,hS,vs,r,m⟩:kvs.length≤sizeLine∧(p == sysModules) = false∧∃ vs,KV kvs vs∧s.heap.DictOf (mixKind X.prog X.w) p vs:=I.hok p _ hx
      have hlen:kvs.length = vs.length:=Paired.length r
      exact wpAny_truthy_dict hS m (by omega) ⟨H,I.tok _,by rw [isEmpty_kv r]; exact q⟩
  | _=>exact (show False from e).elim
theorem pt_truth (ha:PE X a ta) (he:∀ whole,isTrue a X.env whole = (do let v ← whole; standAt a.pos; holding [v] (truthy v))) :
    PT X a (fun σ H Q=>ta σ H fun x H'=>∃ k,TruV X.K x H' k∧Q k H'):=by
  intro pins s σ H Q I h
  exact isTrue_plain (thn (ha pins s σ H _ I h) fun v s1 ⟨x,H1,I1,r1,q1⟩=>tru_ok pins s1 σ H1 x v Q I1 r1 q1) (he _)
theorem vals1 {x:V} {us:List Value} (r:Vals [x] us):∃ u,us = [u]∧RelV x u:=by
  cases r with
  | cons r1 r2=>cases r2; exact ⟨_,rfl,r1⟩
theorem vals2 {x y:V} {us:List Value} (r:Vals [x,y] us):∃ u w',us = [u,w']∧RelV x u∧RelV y w':=by
  cases r with
  | cons r1 r2 =>
    cases r2 with
    | cons r3 r4=>cases r4; exact ⟨_,_,rfl,r1,r3⟩
end
end L2
namespace L2
open PySem PySem.Spec PyProof.Rows
structure ObjM (h:Heap) (x dx C:Addr) (mA:Str→Option Value):Prop where
  obj:h.get? x = some (PySem.W.instObj C dx)
  ns:h.Ns1 dx mA
  ne:dx≠x
theorem lookIn_ns {h:Heap} {dx:Addr} {mA:Str→Option Value} (n:h.Ns1 dx mA):∃ od,h.get? dx = some od∧∀ name,PySem.W.lookIn name od = some (mA name):=by
  obtain ⟨o,es,ep,ho,hd,hk,_,hm⟩:=n
  refine ⟨o,ho,fun name=>?_⟩
  have e:=hm name
  unfold nsFind findBy at e
  rw [← Array.find?_toList] at e
  unfold PySem.W.lookIn
  rw [hd]
  dsimp only
  split
  · rename_i y q
    rw [q] at e
    exact congrArg some e
  · rename_i q
    rw [q] at e
    have a:es.toList.any (·.refKey) = false:=by
      rw [List.any_eq_false]
      intro y hy
      obtain ⟨z,t,hkey⟩:=hk y (Array.mem_toList_iff.mp hy)
      simp [DictEntry.refKey,hkey]
    have a':¬ es.toList.any (·.refKey) = true:=by rw [a]; exact Bool.false_ne_true
    rw [if_neg a']
    exact congrArg some e
theorem ObjM.look {h:Heap} {x dx C:Addr} {mA:Str→Option Value} (I:ObjM h x dx C mA):∃ od,PySem.W.InstAt h x (PySem.W.instObj C dx) C (some od)∧∀ name,PySem.W.lookIn name od = some (mA name) :=
  let ⟨od,ho,hl⟩:=lookIn_ns I.ns
  ⟨od,⟨I.obj,rfl,rfl,ho⟩,hl⟩
section
variable {prog:Program} {w:World} {A:Around} {E:Value→Shared→Prop} {s:Shared} {K:PySem.W.Frag} {x dx C f:Addr} {mA:Str→Option Value} {name:Str} {v:Value}
theorem get_map {expr:Bool} {Q:Value→Shared→Prop} (X:K.In s.heap) (I:ObjM s.heap x dx C mA) (hg:PySem.W.plainGet K C name = true) (hh:PySem.W.hasDictIn K C = true)
    (ha:PySem.W.findIn K (.ref C) name = some none) (hv:mA name = some v) (hv':PySem.W.handedIn v = true) (h:Q v { s with toks:=s.toks + 1 }) :
    wpAny (model prog w) A (getAttr (.ref x) name expr) Q E s:=by
  obtain ⟨od,J,hl⟩:=I.look
  exact PySem.W.get_value X J (PySem.W.plainGet_of hg).1 (PySem.W.findObj_own hh ha rfl (by rw [hl,hv])) hv' h
theorem get_meth {pl:Sem Bool} {Q:Value × List Value→Shared→Prop} (X:K.In s.heap) (I:ObjM s.heap x dx C mA) (hg:PySem.W.plainGet K C name = true)
    (hf:PySem.W.findIn K (.ref C) name = some (some (.ref f))) (ht:PySem.W.isFn K (.ref f) = true) (hv:mA name = none) (h:Q (.ref f,[.ref x]) s) :
    wpAny (model prog w) A (getMethod (.ref x) name pl) Q E s:=by
  obtain ⟨od,J,hl⟩:=I.look
  exact PySem.W.method_fn X J (PySem.W.plainGet_of hg).1 (PySem.W.plainGet_of hg).2 hf (beq_iff_eq.mp ht) (by show (PySem.W.lookIn name od).map (·.isSome) = some false; rw [hl,hv]; rfl) h
theorem set_map {ns:List Str} {Q:Unit→Shared→Prop} (X:K.In s.heap) (I:ObjM s.heap x dx C mA)
    (hs:PySem.W.findIn K (.ref C) "__setattr__" = some (some (.builtin "object.__setattr__"))) (hp:PySem.W.plainOver K C = true) (ht:PySem.W.takerIn K C name = some none) (hh:PySem.W.hasDictIn K C = true)
    (hw:PySem.Within mA ns) (hsz:ns.length≤sizeLine)
    (h:∀ h',ObjM h' x dx C (fun y=>if y = name then some v else mA y)→Heap.SameBut dx s.heap h'→Q () { s with heap:=h',toks:=s.toks + 2 }) :
    wpAny (model prog w) A (setAttr (.ref x) name v) Q E s:=by
  obtain ⟨od,J,hl⟩:=I.look
  refine PySem.W.set_plain X J hs (PySem.W.osa_open (s:={ s with toks:=s.toks + 1 }) (r:=none) X J hp ht fun b=>?_)
  obtain ⟨cd,hc,hd'⟩:=PySem.W.any_some hh
  have hx:s.heap.get? x = some ⟨.ref C,some dx,.plain,#[]⟩:=I.obj
  refine wpAny_bind (wpAny_pure (wpAny_bind (wpAny_bind (wpAny_loadPart hx (wpAny_bind (PySem.W.Looks.here (s:={ s with toks:=s.toks + 1 }) (PySem.W.looks_clsIn X hc) ?_))))))
  rw [hd']
  refine wpAny_pure (a:=some dx) (wpAny_bind (wpAny_pure (wpAny_bind ?_)))
  refine wpAny_nsSet1 (s:={ s with toks:=s.toks + 1 }) I.ns fun h' hn2 hs2=>?_
  obtain ⟨oD,esD,epD,hoD,hdD,hcD⟩:=hn2.count (PySem.Within.cons name v hw)
  refine wpAny_bind (wpAny_lookBehind hoD (by rw [hdD]; exact pastItsLine_dict (Nat.le_trans hcD (by rw [List.length_cons]; omega))) ?_)
  exact wpAny_pure (h _ ⟨(hs2.2 _ (Ne.symm I.ne)).trans I.obj,hn2,I.ne⟩ hs2)
theorem make_map {R:Result→Shared→Prop} {vs:List Value} {kw:List (Str × Value)} (X:K.In s.heap) (hm:PySem.W.makesIn K C = true)
    (hi:PySem.W.findIn K (.ref C) "__init__" = some (some (.ref f))) (hf:PySem.W.typeIn K (.ref f) = some (.type "function"))
    (h:codeAny (model prog w) (A.under (.builtin "type.__call__" ⟨.ref C :: vs,kw⟩)) (.call (.ref f) ⟨.ref (s.heap.objs.size + 1) :: vs,kw⟩) (PySem.W.InitBack (s.heap.objs.size + 1) R)
      { s with heap:=(s.heap.push PySem.W.emptyDict).push (PySem.W.instObj C s.heap.objs.size) }) :
    codeAny (model prog w) A (.call (.ref C) ⟨vs,kw⟩) R s:=by
  obtain ⟨hh,g,d,t,os⟩:=s
  exact PySem.W.make_core (PySem.W.makes_of X hm) (PySem.W.looks_findIn X hi) (fun self=>PySem.W.bind_fn X self hf) (.inl rfl) h
end
def putF (f:Str) (v:V):List (Str × V)→List (Str × V)
  | []=>[(f,v)]
  | (g,x) :: r=>if g = f then (g,v) :: r else (g,x) :: putF f v r
theorem lookup_putF (f g:Str) (v:V):∀ fs:List (Str × V),(putF f v fs).lookup g = if g = f then some v else fs.lookup g
  | []=>by
    show List.lookup g [(f,v)] = _
    by_cases h:g = f
    · have hb:(g == f) = true:=beq_iff_eq.mpr h
      simp only [List.lookup,hb,if_pos h]
    · have hb:(g == f) = false:=beq_eq_false_iff_ne.mpr h
      simp only [List.lookup,hb,if_neg h]
  | (k,x) :: r=>by
    have ih:=lookup_putF f g v r
    rw [show putF f v ((k,x) :: r) = (if k = f then (k,v) :: r else (k,x) :: putF f v r) from rfl]
    by_cases hk:k = f
    · rw [if_pos hk]
      by_cases h:g = k
      · have hb:(g == k) = true:=beq_iff_eq.mpr h
        simp only [List.lookup,hb,if_pos (h.trans hk)]
      · have hb:(g == k) = false:=beq_eq_false_iff_ne.mpr h
        simp only [List.lookup,hb,if_neg (fun e:g = f=>h (e.trans hk.symm))]
    · rw [if_neg hk]
      by_cases h:g = k
      · have hb:(g == k) = true:=beq_iff_eq.mpr h
        simp only [List.lookup,hb,if_neg (fun e:g = f=>hk (h.symm.trans e))]
      · have hb:(g == k) = false:=beq_eq_false_iff_ne.mpr h
        simp only [List.lookup,hb]
        exact ih
theorem keys_putF (f:Str) (v:V):∀ fs:List (Str × V),f∈(putF f v fs).map (·.1)∧∀ g,g∈fs.map (·.1)→g∈(putF f v fs).map (·.1)
  | []=>⟨by simp [putF],fun g h=>by simp at h⟩
  | (k,x) :: r=>by
    obtain ⟨i1,i2⟩:=keys_putF f v r
    rw [show putF f v ((k,x) :: r) = (if k = f then (k,v) :: r else (k,x) :: putF f v r) from rfl]
    by_cases hk:k = f
    · rw [if_pos hk]
      subst hk
      exact ⟨by simp,fun g h=>by simpa using h⟩
    · rw [if_neg hk]
      refine ⟨?_,fun g h=>?_⟩
      · rw [List.map_cons]
        exact List.mem_cons_of_mem _ i1
      · rw [List.map_cons] at h ⊢
        rcases List.mem_cons.mp h with e | e
        · exact List.mem_cons.mpr (.inl e)
        · exact List.mem_cons_of_mem _ (i2 g e)
theorem length_putF (f:Str) (v:V):∀ fs:List (Str × V),(putF f v fs).length≤fs.length + 1
  | []=>by simp [putF]
  | (k,x) :: r=>by
    have ih:=length_putF f v r
    rw [show putF f v ((k,x) :: r) = (if k = f then (k,v) :: r else (k,x) :: putF f v r) from rfl]
    by_cases hk:k = f
    · rw [if_pos hk,List.length_cons,List.length_cons]; omega
    · rw [if_neg hk,List.length_cons,List.length_cons]; omega
theorem RelO.some_of {v:V} {o:Option Value} (r:RelO (some v) o):∃ u,o = some u∧RelV v u:=by
  cases o with
  | none=>exact (show False from r).elim
  | some u=>exact ⟨u,rfl,r⟩
theorem RelO.none_of {o:Option Value} (r:RelO none o):o = none:=by
  cases o with
  | none=>rfl
  | some u=>exact (show False from r).elim
theorem handed_of {v:V} {u:Value} (r:RelV v u):PySem.W.handedIn u = true:=by
  cases v with
  | non=>cases (show u = Value.none from r); rfl
  | bl b=>cases (show u = Value.bool b from r); rfl
  | int i=>obtain ⟨t,e⟩:=(show ∃ t,u = Value.int i t from r); cases e; rfl
  | str x=>obtain ⟨t,e⟩:=(show ∃ t,u = Value.str x t from r); cases e; rfl
  | byt b=>obtain ⟨t,e⟩:=(show ∃ t,u = Value.bytes b t from r); cases e; rfl
  | flt b=>obtain ⟨t,e⟩:=(show ∃ t,u = Value.float b t from r); cases e; rfl
  | ref a=>cases (show u = Value.ref a from r); rfl
  | ty n=>cases (show u = Value.type n from r); rfl
section
variable {P:Program} {w:World} {H H':Hp} {h h':Heap} {a C dx:Addr} {fs fs':List (Str × V)}
theorem ins_get (hok:HOk P w H h) (e:H a = some (.ins C dx fs)):∃ mA,ObjM h a dx C mA∧(∀ f,RelO (fs.lookup f) (mA f))∧PySem.Within mA (fs.map (·.1))∧fs.length≤1000∧H dx = some (.own a):=by
  obtain ⟨d,z,ne,ob,mA,n,r,q⟩:=(show ObjOk P w H h a (.ins C dx fs) from hok a _ e)
  exact ⟨mA,⟨ob,n,ne⟩,r,q,z,d⟩
end
structure Cls (K:PySem.W.Frag) (C:Addr):Prop where
  pg:PySem.W.plainGet K C Str.empty = true
  hd:PySem.W.hasDictIn K C = true
  po:PySem.W.plainOver K C = true
  sa:PySem.W.findIn K (.ref C) "__setattr__" = some (some (.builtin "object.__setattr__"))
theorem Cls.get {K:PySem.W.Frag} {C:Addr} (c:Cls K C) (f:Str):PySem.W.plainGet K C f = true:=c.pg
def NoAttr (K:PySem.W.Frag) (C:Addr) (f:Str):Prop:=PySem.W.findIn K (.ref C) f = some none
theorem NoAttr.taker {K:PySem.W.Frag} {C:Addr} {f:Str} (n:NoAttr K C f):PySem.W.takerIn K C f = some none:=by
  unfold PySem.W.takerIn
  rw [show PySem.W.findIn K (.ref C) f = some none from n]
  rfl
structure Meth (K:PySem.W.Frag) (C:Addr) (m:Str) (f:Addr):Prop where
  at_:PySem.W.findIn K (.ref C) m = some (some (.ref f))
  fn:PySem.W.isFn K (.ref f) = true
  kp:PySem.W.keepIn K (.ref f) = true
section
variable {X:Cx} {pins:List (Addr × Obj)} {σ:St} {H:Hp} {s:Shared} {a C dx:Addr} {fs:List (Str × V)} {f:Str} {v:V} {A:Around} {E:Value→Shared→Prop}
theorem getattr_ok {b:Bool} {Q:Value→Shared→Prop} (I:Inv X pins σ H s) (e:H a = some (.ins C dx fs)) (c:Cls X.K C) (n:NoAttr X.K C f) (l:fs.lookup f = some v)
    (h:∀ u s',Inv X pins σ H s'→RelV v u→Q u s'):wpAny (model X.prog X.w) A (getAttr (.ref a) f b) Q E s:=by
  obtain ⟨mA,O,r,_,_,_⟩:=ins_get I.hok e
  obtain ⟨u,hu,ru⟩:=RelO.some_of (v:=v) (o:=mA f) (by rw [← l]; exact r f)
  exact get_map I.kIn O (c.get f) c.hd n hu (handed_of ru) (h u _ (I.tok _) ru)
theorem getmeth_ok {m:Str} {g:Addr} {pl:Sem Bool} {Q:Value × List Value→Shared→Prop} (I:Inv X pins σ H s) (e:H a = some (.ins C dx fs)) (c:Cls X.K C) (k:Meth X.K C m g) (l:fs.lookup m = none)
    (h:Q (.ref g,[.ref a]) s):wpAny (model X.prog X.w) A (getMethod (.ref a) m pl) Q E s:=by
  obtain ⟨mA,O,r,_,_,_⟩:=ins_get I.hok e
  have hn:mA m = none:=RelO.none_of (by rw [← l]; exact r m)
  exact get_meth I.kIn O (c.get m) k.at_ k.fn hn h
theorem setattr_ok {y:V} {u:Value} {Q:Unit→Shared→Prop} (I:Inv X pins σ H s) (e:H a = some (.ins C dx fs)) (c:Cls X.K C) (n:NoAttr X.K C f) (hl:fs.length < 1000) (ry:RelV y u)
    (h:∀ s',Inv X pins σ (upd H a (.ins C dx (putF f y fs))) s'→Q () s'):wpAny (model X.prog X.w) A (setAttr (.ref a) f u) Q E s:=by
  obtain ⟨mA,O,r,wi,_,ho⟩:=ins_get I.hok e
  have hz:(fs.map (·.1)).length≤sizeLine:=by rw [List.length_map,sizeLine_eq]; omega
  refine set_map I.kIn O c.sa c.po n.taker c.hd wi hz fun h' O' sb=>h _ ?_
  have hd:∃ o,h'.get? dx = some o:=let ⟨o,_,_,e',_⟩:=O'.ns; ⟨o,e'⟩
  refine I.write (x:=a) (e:=dx) (by rw [e]; exact True.intro) (.inr ho) (fun b q hb z=>(sb.2 b hb).trans z) hd ?_
  refine ⟨by rw [upd_ne O.ne]; exact ho,?_,O.ne,O'.obj,_,O'.ns,fun g=>?_,fun g hg=>?_⟩
  · have:=length_putF f y fs; omega
  · show RelO ((putF f y fs).lookup g) (if g = f then some u else mA g)
    rw [lookup_putF]
    by_cases q:g = f
    · rw [if_pos q,if_pos q]; exact ry
    · rw [if_neg q,if_neg q]; exact r g
  · by_cases q:g = f
    · rw [q]; exact (keys_putF f y fs).1
    · refine (keys_putF f y fs).2 g (wi g fun z=>hg ?_)
      show (if g = f then some u else mA g) = none
      rw [if_neg q]; exact z
theorem Inv.made (I:Inv X pins σ H s):Inv X pins σ (upd (upd H s.heap.objs.size (.own (s.heap.objs.size + 1))) (s.heap.objs.size + 1) (.ins C s.heap.objs.size []))
    { s with heap:=(s.heap.push PySem.W.emptyDict).push (PySem.W.instObj C s.heap.objs.size) }:=by
  have e1:(s.heap.push PySem.W.emptyDict).get? s.heap.objs.size = some PySem.W.emptyDict:=Heap.get?_push_size s.heap rfl
  have e2:((s.heap.push PySem.W.emptyDict).push (PySem.W.instObj C s.heap.objs.size)).get? (s.heap.objs.size + 1) = some (PySem.W.instObj C s.heap.objs.size):=by
    have:=Heap.get?_push_size (s.heap.push PySem.W.emptyDict) (o:=PySem.W.instObj C s.heap.objs.size) rfl
    rwa [Heap.size_push] at this
  have e3:(s.heap.push PySem.W.emptyDict).Ns s.heap.objs.size (fun _=>none):=⟨PySem.W.emptyDict,#[],_,e1,rfl,(fun e he=>absurd he (by simp)),fun _=>rfl⟩
  have I1:=I.laid (a:=s.heap.objs.size) (o:=.own (s.heap.objs.size + 1)) (h':=s.heap.push PySem.W.emptyDict) (t':=s.toks) (fun b u q=>Heap.get?_push_of_some _ q) (Nat.le_refl _) ⟨_,e1⟩
  refine I1.laid (a:=s.heap.objs.size + 1) (o:=.ins C s.heap.objs.size []) (t':=s.toks) (fun b u q=>Heap.get?_push_of_some _ q) (Nat.le_of_eq (Heap.size_push _ _)) ?_
  have ne:s.heap.objs.size≠s.heap.objs.size + 1:=Nat.ne_of_lt (Nat.lt_succ_self _)
  refine ⟨by rw [upd_ne ne,upd_same],Nat.zero_le _,ne,e2,fun _=>none,(Heap.Ns1.of_empty e3).at fun o q=>Heap.get?_push_of_some _ q,fun _=>True.intro,fun y hy=>absurd rfl hy⟩
theorem attr_of {prog:Program} {w:World} {env:Env} {e:Expr} {f:Str} {pos:Pos} {s:Shared} {Q:Value→Shared→Prop} (hb:attributeBase e f env (eval e env) = eval e env)
    (h:wpAny (model prog w) A (eval e env) (fun o s₁=>wpAny (model prog w) A (getAttr o f true) Q E s₁) E s):wpAny (model prog w) A (eval (.Attribute e f pos) env) Q E s :=
  Attribute_any_ h (by rw [arm_eval_Attribute,hb])
end
def tFld (K:PySem.W.Frag) (ta:TE) (f:Str):TE:=fun σ H Q=>ta σ H fun x H1=>∃ a C dx fs v,x = .ref a∧H1 a = some (.ins C dx fs)∧Cls K C∧NoAttr K C f∧fs.lookup f = some v∧Q v H1
def sFld (K:PySem.W.Frag) (ta tv:TE) (f:Str):TS:=fun D σ H=>tv σ H fun y H1=>ta σ H1 fun x H2=>∃ a C dx fs,x = .ref a∧H2 a = some (.ins C dx fs)∧Cls K C∧NoAttr K C f∧fs.length < 1000 ∧
  D.nx σ (upd H2 a (.ins C dx (putF f y fs)))
section
variable {X:Cx} {o e value:Expr} {f:Str} {pos pos' tpos:Pos} {ta tv:TE}
theorem pe_fld (he:PE X e ta) (hb:attributeBase e f X.env (eval e X.env) = eval e X.env):PE X (.Attribute e f pos) (tFld X.K ta f):=by
  intro pins s σ H Q I h
  refine attr_of hb (thn (he pins s σ H _ I h) fun u s1 ⟨x,H1,I1,rx,a,C,dx,fs,v,ex,ea,c,n,l,q⟩=>?_)
  subst ex
  obtain rfl:u = Value.ref a:=rx
  exact getattr_ok I1 ea c n l fun u' s2 I2 ru=>⟨v,H1,I2,ru,q⟩
theorem ps_fld (ha:PE X o ta) (hv:PE X value tv) (hs:swapsWith value (some (.Attribute o f pos')) pos.line X.env = pure false):PS X (.Assign [.Attribute o f pos'] value pos) (sFld X.K ta tv f):=by
  intro pins s σ H D I h
  refine plainObj_wpAny_Assign_Attribute (thn (hv pins s σ H _ I h) fun u s1 ⟨y,H1,I1,ry,q⟩=>thn (ha pins s1 σ H1 _ I1 q) fun ov s2 ⟨x,H2,I2,rx,a,C,dx,fs,ex,ea,c,n,l,q2⟩=>?_) hs
  subst ex
  obtain rfl:ov = Value.ref a:=rx
  exact setattr_ok I2 ea c n l ry fun s3 I3=>⟨σ,_,I3,q2⟩
theorem methcall_of {pl:Sem Bool} {m:Str} {apos:Pos} {args:List Expr} {pins:List (Addr × Obj)} {s:Shared} {σ:St} {H:Hp} {Q:Value→Shared→Prop} {te:TE} (he:PE X e te) (I:Inv X pins σ H s)
    (h:te σ H fun x H1=>∃ a C dx fs g,x = .ref a∧H1 a = some (.ins C dx fs)∧Cls X.K C∧Meth X.K C m g∧fs.lookup m = none ∧
      ∀ s1,Inv X pins σ H1 s1→wpAny (model X.prog X.w) X.A (callWith pos (.ref g) [.ref a] (backTo pos (starEach args X.env)) (backToKw pos (keywordEach [] X.env))) Q X.xe s1)
    (ht:eval (.Call (.Attribute e m apos) args [] pos) X.env = (do
      let ov ← eval e X.env
      standAt apos.atName
      let (f,first) ← holding [ov] (getMethod ov m pl)
      callWith pos f first (backTo pos (starEach args X.env)) (backToKw pos (keywordEach [] X.env)))) :
    wpAny (model X.prog X.w) X.A (eval (.Call (.Attribute e m apos) args [] pos) X.env) Q X.xe s:=by
  refine PySem.W.methodCall_KW (pl:=pl) (thn (he pins s σ H _ I h) fun u s1 ⟨x,H1,I1,rx,a,C,dx,fs,g,ex,ea,c,k,l,q⟩=>?_) ht
  subst ex
  obtain rfl:u = Value.ref a:=rx
  exact getmeth_ok I1 ea c k l (q s1 I1)
end
section
variable {X:Cx} {pins:List (Addr × Obj)} {σ:St} {H:Hp} {s:Shared} {A:Around} {E:Value→Shared→Prop} {Q:Value→Shared→Prop} {c:Value} {b:Bool}
inductive TyOf (K:PySem.W.Frag) (H:Hp):V→Value→Prop where
  | non:TyOf K H .non (.type "NoneType")
  | bl (x:Bool):TyOf K H (.bl x) (.type "bool")
  | int (i:Int):TyOf K H (.int i) (.type "int")
  | str (x:Str):TyOf K H (.str x) (.type "str")
  | flt (x:UInt64):TyOf K H (.flt x) (.type "float")
  | lst {a:Addr} {xs:List V} (e:H a = some (.lst xs)):TyOf K H (.ref a) (.type "list")
  | frz {a:Addr} {o:Obj} {xs:List V} (e:H a = some (.frz o (.lst xs))):TyOf K H (.ref a) (.type "list")
  | tup {a:Addr} {xs:List V} (e:H a = some (.tup xs)):TyOf K H (.ref a) (.type "tuple")
  | dK {a:Addr} {kvs:List (Key × V)} (e:H a = some (.dK kvs)):TyOf K H (.ref a) (.type "dict")
  | dT {a:Addr} {kvs:List (List Key × V)} (e:H a = some (.dT kvs)):TyOf K H (.ref a) (.type "dict")
  | ins {a C dx:Addr} {fs:List (Str × V)} (e:H a = some (.ins C dx fs)) (cl:Cls K C) (ha:PySem.W.findIn K (.ref C) "__class__" = some (some (.builtin "object.__class__")))
      (hn:PySem.W.specialIn K (.builtin "object.__class__") "__get__" = some (some (.builtin "getset_descriptor.__get__"))) (htk:PySem.W.takesIn K (.builtin "object.__class__") = some true)
      (hm:PySem.W.mroIn K C (.type "object") = some true):TyOf K H (.ref a) (.ref C)
theorem isinst_ok {x:V} {u t:Value} (I:Inv X pins σ H s) (rx:RelV x u) (ty:TyOf X.K H x t) (e:PySem.W.kitOne X.K t c = some b) (h:∀ tk,Q (.bool b) { s with toks:=tk }) :
    wpAny (model X.prog X.w) A (call (.builtin "isinstance") [u,c]) Q E s:=by
  cases ty with
  | non=>cases (show u = Value.none from rx); exact PySem.W.kia_one PySem.W.kitx_none I.kIn True.intro e (fun z=>nomatch z) h
  | bl y=>cases (show u = Value.bool y from rx); exact PySem.W.kia_one PySem.W.kitx_bool I.kIn True.intro e (fun z=>nomatch z) h
  | int i=>obtain ⟨t,q⟩:=(show ∃ t,u = Value.int i t from rx); cases q; exact PySem.W.kia_one PySem.W.kitx_int I.kIn True.intro e (fun z=>nomatch z) h
  | str y=>obtain ⟨t,q⟩:=(show ∃ t,u = Value.str y t from rx); cases q; exact PySem.W.kia_one PySem.W.kitx_str I.kIn True.intro e (fun z=>nomatch z) h
  | flt y=>obtain ⟨t,q⟩:=(show ∃ t,u = Value.float y t from rx); cases q; exact PySem.W.kia_one PySem.W.kitx_float I.kIn True.intro e (fun z=>nomatch z) h
  | @lst a xs ea =>
    cases (show u = Value.ref a from rx)
    obtain ⟨_,_,n,_,h1⟩:=(show ObjOk X.prog X.w H s.heap a (.lst xs) from I.hok a _ ea)
    exact PySem.W.kia_one PySem.W.kitx_list I.kIn ⟨_,h1,rfl⟩ e (fun z=>nomatch z) h
  | @frz a ob xs ea =>
    cases (show u = Value.ref a from rx)
    obtain ⟨_,_,_,n,_,h1⟩:=(show ObjOk X.prog X.w H s.heap a (.frz ob (.lst xs)) from I.hok a _ ea)
    exact PySem.W.kia_one PySem.W.kitx_list I.kIn ⟨_,h1,rfl⟩ e (fun z=>nomatch z) h
  | @tup a xs ea =>
    cases (show u = Value.ref a from rx)
    obtain ⟨_,_,_,p⟩:=(show ObjOk X.prog X.w H s.heap a (.tup xs) from I.hok a _ ea)
    obtain ⟨o,h1,h2,_⟩:=p
    exact PySem.W.kia_one PySem.W.kitx_tuple I.kIn ⟨o,h1,h2⟩ e (fun z=>nomatch z) h
  | @dK a kvs ea =>
    cases (show u = Value.ref a from rx)
    obtain ⟨_,_,vs,_,p⟩:=(show ObjOk X.prog X.w H s.heap a (.dK kvs) from I.hok a _ ea)
    obtain ⟨o,es,ep,h1,h2,_⟩:=p
    exact PySem.W.kia_one PySem.W.kitx_dict I.kIn ⟨o,h1,h2.1⟩ e (fun z=>nomatch z) h
  | @dT a kvs ea =>
    cases (show u = Value.ref a from rx)
    obtain ⟨_,_,xs,_,o,es,ep,h1,h2,_⟩:=(show ObjOk X.prog X.w H s.heap a (.dT kvs) from I.hok a _ ea)
    exact PySem.W.kia_one PySem.W.kitx_dict I.kIn ⟨o,h1,h2.1⟩ e (fun z=>nomatch z) h
  | @ins a C dx fs ea cl ha hn htk hm =>
    cases (show u = Value.ref a from rx)
    obtain ⟨mA,O,_⟩:=ins_get I.hok ea
    obtain ⟨od,J,_⟩:=O.look
    exact PySem.W.kia_one (PySem.W.kitx_own (cl.get _) cl.hd ha hn htk hm) I.kIn J e (fun z=>nomatch z) h
end
end L2
namespace L2
open PySem PySem.Spec PyProof.Rows
structure Room (k:Nat) (A:Around):Prop where
  hd:A.handled = none
  gd:A.guards = some []
  dp:A.depth + 3 * k + 5 < recursionLimit
  un:A.units + 16 * k + 200 < cLine
theorem Room.mono {j k:Nat} {A:Around} (r:Room k A) (h:j≤k):Room j A:=⟨r.hd,r.gd,by have:=r.dp; omega,by have:=r.un; omega⟩
theorem Room.deeper {k:Nat} {A:Around} (r:Room (k + 1) A) (env:Env):Room k (A.deeper env) :=
  ⟨r.hd,r.gd,by have:=r.dp; show A.depth + 1 + 3 * k + 5 < _; omega,by have:=r.un; show A.units + 3 + 16 * k + 200 < _; omega⟩
theorem Room.in1 {k:Nat} {A:Around} (r:Room (k + 1) A):Room k A.in1 :=
  ⟨r.hd,r.gd,by have:=r.dp; show A.depth + 3 * k + 5 < _; omega,by have:=r.un; show A.units + 1 + 16 * k + 200 < _; omega⟩
theorem make_depth {A:Around} {C:Addr} {us:List Value} {kw:List (Str × Value)}:(A.under (.builtin "type.__call__" ⟨.ref C :: us,kw⟩)).depth = A.depth + 1:=by
  first | rfl | simp [Around.under,Code.weight,Code.isCreation,Code.isGuard,Code.isCaller,Code.frames,Code.isFrame,guardIds]
theorem make_units {A:Around} {C:Addr} {us:List Value} {kw:List (Str × Value)}:(A.under (.builtin "type.__call__" ⟨.ref C :: us,kw⟩)).units = A.units + 1:=by
  first | rfl | simp [Around.under,Code.cUnits,Code.frames,Code.isFrame]
theorem Room.make {k:Nat} {A:Around} (r:Room (k + 1) A) (C:Addr) (us:List Value) (kw:List (Str × Value)):Room k (A.under (.builtin "type.__call__" ⟨.ref C :: us,kw⟩)) :=
  ⟨r.hd,(by
    have e:(Code.builtin "type.__call__" ⟨.ref C :: us,kw⟩).guards = []:=by first | rfl | simp [Code.guards,Code.isGuard,guardIds]
    unfold Around.under
    simp only [e,pushGuards]
    exact r.gd),by have:=r.dp; rw [make_depth]; omega,by have:=r.un; rw [make_units]; omega⟩
theorem Room.depth {k:Nat} {A:Around} (r:Room k A):A.depth < recursionLimit:=by have:=r.dp; omega
theorem Room.units {k:Nat} {A:Around} (r:Room k A):A.units + 64 < cLine:=by have:=r.un; omega
def tNil:TA:=fun _ H Q=>Q [] H
def tCons (ta:TE) (tr:TA):TA:=fun σ H Q=>ta σ H fun x H1=>tr σ H1 fun xs H2=>Q (x :: xs) H2
section
variable {X:Cx} {e:Expr} {es:List Expr} {te:TE} {t:TA} {pos:Pos}
theorem pa_nil:PA X [] tNil:=fun _ _ _ _ H Q I h=>Calls.spliced_nil ⟨[],H,I,.nil,h⟩
theorem pa_cons (ha:PE X e te) (hr:PA X es t) (hs:starEach (e :: es) X.env = (false,eval e X.env) :: starEach es X.env:=by rfl):PA X (e :: es) (tCons te t):=by
  intro pos pins s σ H Q I h
  rw [hs]
  show wpAny _ _ (spliced ((false,eval e X.env) :: backTo pos (starEach es X.env))) _ _ s
  refine Calls.spliced_cons (thn (ha pins s σ H _ I h) fun u s1 ⟨x,H1,I1,r1,q1⟩=>?_)
  exact thn (hr pos pins s1 σ H1 _ I1 q1) fun us s2 ⟨xs,H2,I2,r2,q2⟩=>⟨x :: xs,H2,I2,.cons r1 r2,q2⟩
def tTup (t:TA):TE:=fun σ H Q=>t σ H fun xs H1=>xs.length≤sizeLine∧∀ p,H1 p = none→Q (.ref p) (upd H1 p (.tup xs))
def tLst (t:TA):TE:=fun σ H Q=>t σ H fun xs H1=>xs.length≤sizeLine∧∀ p,H1 p = none→Q (.ref p) (upd H1 p (.lst xs))
theorem pe_tup {x1} (h:PA X es t):PE X (.Tuple es x1 pos) (tTup t):=by
  intro pins s σ H Q I hq
  refine wpAny_Tuple_spliced (thn (h pos pins s σ H _ I hq) fun us s1 ⟨xs,H1,I1,r,z,q⟩=>⟨by rw [← r.length]; exact z,?_⟩)
  have hf:H1 s1.heap.objs.size = none:=I1.hok.fresh (Nat.le_refl _)
  refine ⟨.ref s1.heap.objs.size,upd H1 s1.heap.objs.size (.tup xs),I1.laid (t':=s1.toks) (fun b u e=>Heap.get?_push_of_some _ e) (Nat.le_refl _) ?_,rfl,q _ hf⟩
  exact ⟨z,us,r,⟨_,Heap.get?_push_size _ rfl,rfl,_,rfl⟩⟩
theorem pe_lst (h:PA X es t):PE X (.List es pos) (tLst t):=by
  intro pins s σ H Q I hq
  refine wpAny_List_spliced (thn (h pos pins s σ H _ I hq) fun us s1 ⟨xs,H1,I1,r,z,q⟩=>⟨by rw [← r.length]; exact z,?_⟩)
  have hf:H1 s1.heap.objs.size = none:=I1.hok.fresh (Nat.le_refl _)
  refine ⟨.ref s1.heap.objs.size,upd H1 s1.heap.objs.size (.lst xs),I1.laid (t':=s1.toks) (fun b u e=>Heap.get?_push_of_some _ e) (Nat.le_refl _) ?_,rfl,q _ hf⟩
  exact ⟨z,us,0,r,Heap.get?_push_size _ rfl⟩
end
abbrev Sp:=List V→Hp→VK→XK→Prop
abbrev CXT:=List Env→Hp→Shared→XK→Value→Shared→Prop
structure Env0 (P:Program) (w:World) (K:PySem.W.Frag) (mg:Str→Option Value) (base:Heap) (A:Around) (outer:List Env) (s:Shared) (H:Hp):Prop where
  frames:A.frames = some outer
  mod:Mod K mg base
  bs:∀ b o,base.get? b = some o→s.heap.get? b = some o∧H b = none
  bsz:base.objs.size≤s.heap.objs.size
  funs:s.heap.FunFrames base outer
  frf:∀ b∈frs outer,H b = none
  hok:HOk P w H s.heap
  bare:AllBare s.gens
def CE (outer:List Env) (P:Program) (w:World) (H:Hp) (s:Shared) (Q:VK) (u:Value) (s':Shared):Prop :=
  ∃ v H',s'.os = s.os∧AllBare s'.gens∧Un (frs outer) [] H H' s.heap s'.heap∧HOk P w H' s'.heap∧RelV v u∧Q v H'
def CR (CX:CXT) (outer:List Env) (P:Program) (w:World) (H:Hp) (s:Shared) (Q:VK) (E:XK) (r:Result) (s':Shared):Prop :=
  match r with
  | .ok (.ret u)=>CE outer P w H s Q u s'
  | .ok _=>False
  | .error e=>CX outer H s E e s'
structure FnOk (P:Program) (w:World) (K:PySem.W.Frag) (mg:Str→Option Value) (base:Heap) (CX:CXT) (k:Nat) (f:Addr) (fd:FuncData) (ps:List Str) (sp:Sp):Prop where
  len:∀ vs H Q E,sp vs H Q E→vs.length = ps.length
  run:∀ (A:Around) (outer:List Env) (s:Shared) (H:Hp) (args:Args) (us:List Value) (vs:List V) (Q:VK) (E:XK),Room k A→Env0 P w K mg base A outer s H→BindsTo s fd args (ps.zip us)→Vals vs us→sp vs H Q E →
    codeAny (model P w) A (.call (.ref f) args) (CR CX outer P w H s Q E) s
theorem FnOk.mono {P:Program} {w:World} {K:PySem.W.Frag} {mg:Str→Option Value} {base:Heap} {CX:CXT} {j k:Nat} {f:Addr} {fd:FuncData} {ps:List Str} {sp:Sp} (F:FnOk P w K mg base CX j f fd ps sp) (h:j≤k) :
    FnOk P w K mg base CX k f fd ps sp:=⟨F.len,fun A outer s H args us vs Q E hr=>F.run A outer s H args us vs Q E (hr.mono h)⟩
theorem Env0.make {P:Program} {w:World} {K:PySem.W.Frag} {mg:Str→Option Value} {base:Heap} {A:Around} {outer:List Env} {s:Shared} {H:Hp} (e:Env0 P w K mg base A outer s H) (C:Addr) (us:List Value) (kw:List (Str × Value)) :
    Env0 P w K mg base (A.under (.builtin "type.__call__" ⟨.ref C :: us,kw⟩)) outer s H:=⟨by first | exact e.frames | (simpa [Around.under,Code.envs,Code.isFrame,pushEnvs] using e.frames),e.mod,e.bs,e.bsz,e.funs,e.frf,e.hok,e.bare⟩
theorem Env0.in1 {P:Program} {w:World} {K:PySem.W.Frag} {mg:Str→Option Value} {base:Heap} {A:Around} {outer:List Env} {s:Shared} {H:Hp} (e:Env0 P w K mg base A outer s H) :
    Env0 P w K mg base A.in1 outer s H:=⟨e.frames,e.mod,e.bs,e.bsz,e.funs,e.frf,e.hok,e.bare⟩
section
variable {X:Cx} {pins:List (Addr × Obj)} {σ:St} {H:Hp} {s s':Shared}
theorem Inv.env0 (I:Inv X pins σ H s):Env0 X.prog X.w X.K X.mg X.base X.A X.stack s H :=
  ⟨I.ok.frames,I.ok.mod,I.bs,Nat.le_trans I.ok.bsz I.sz,I.stack,I.stkFree,I.hok,I.bare⟩
theorem Inv.after {Q:VK} {u:Value} (I:Inv X pins σ H s) (h:CE X.stack X.prog X.w H s Q u s'):EP X pins σ Q u s':=by
  obtain ⟨v,H',os,bare,un,hok,r,q⟩:=h
  obtain ⟨hh,g,d,t,os'⟩:=s'
  obtain rfl:os' = s.os:=os
  exact ⟨v,H',I.call (h':=hh) (g':=g) (d':=d) (t':=t) (ch:=[]) un hok bare (fun b z=>absurd z (by simp)),r,q⟩
end
def tCall (sp:Sp) (dvs:List V) (E:XK) (t:TA):TE:=fun σ H Q=>t σ H fun vs H1=>sp (vs ++ dvs) H1 Q E
def tMeth (C:Addr) (m:Str) (sp:Sp) (dvs:List V) (E:XK) (ta:TE) (t:TA):TE:=fun σ H Q=>ta σ H fun x H1=>∃ a dx fs,x = .ref a∧H1 a = some (.ins C dx fs)∧fs.lookup m = none ∧
  t σ H1 fun vs H2=>sp (x :: (vs ++ dvs)) H2 Q E
def tMake (C:Addr) (sp:Sp) (dvs:List V) (E:XK) (t:TA):TE:=fun σ H Q=>t σ H fun vs H1=>∀ x dx,H1 x = none→H1 dx = none→dx≠x →
  sp (.ref x :: (vs ++ dvs)) (upd (upd H1 dx (.own x)) x (.ins C dx [])) (fun v H2=>v = .non∧Q (.ref x) H2) E
def Binds (K:PySem.W.Frag) (fd:FuncData) (ps:List Str) (ds:List Value):Prop :=
  ∀ (s:Shared) (us:List Value),K.In s.heap→(us ++ ds).length = ps.length→BindsTo s fd ⟨us,[]⟩ (ps.zip (us ++ ds))
theorem Binds.all {K:PySem.W.Frag} {fd:FuncData} {ps:List Str} (h:∀ us:List Value,us.length = ps.length→bindArgs fd ⟨us,[]⟩ = pure (ps.zip us)):Binds K fd ps []:=fun s us _ hl=>by
  rw [List.append_nil] at hl ⊢
  exact .of_eq (h us hl)
def Passes (CX:CXT) (X:Cx) (E:XK):Prop:=∀ (pins:List (Addr × Obj)) (σ:St) (H:Hp) (s:Shared) (e:Value) (s':Shared),Inv X pins σ H s→CX X.stack H s E e s'→X.xe e s'
section
variable {X:Cx} {CX:CXT} {k:Nat} {f C:Addr} {fd:FuncData} {ps:List Str} {sp:Sp} {dvs:List V} {ds:List Value} {E:XK} {x m:Str} {p pos apos:Pos} {e o:Expr} {es:List Expr} {ta:TE} {t:TA}
theorem run_fn {pins:List (Addr × Obj)} {σ:St} {H:Hp} {s:Shared} {Q:VK} {us:List Value} {vs:List V} (F:FnOk X.prog X.w X.K X.mg X.base CX k f fd ps sp) (hr:Room k X.A) (hb:Binds X.K fd ps ds) (hd:Vals dvs ds) (hx:Passes CX X E)
    (I:Inv X pins σ H s) (r:Vals vs us) (h:sp (vs ++ dvs) H Q E):wpAny (model X.prog X.w) X.A (call (.ref f) us) (EP X pins σ Q) X.xe s:=by
  have r2:Vals (vs ++ dvs) (us ++ ds):=r.append hd
  have hl:(us ++ ds).length = ps.length:=by rw [← r2.length]; exact F.len _ _ _ _ h
  refine wpAny_call (codeAny_mono (F.run X.A X.stack s H ⟨us,[]⟩ (us ++ ds) (vs ++ dvs) Q E hr I.env0 (hb s us I.kIn hl) r2 h) fun r s' hq=>?_)
  cases r with
  | error e=>exact hx pins σ H s e s' I hq
  | ok fl =>
    cases fl with
    | ret u=>exact I.after hq
    | next=>exact False.elim hq
    | brk=>exact False.elim hq
    | cont=>exact False.elim hq
theorem pe_call (F:FnOk X.prog X.w X.K X.mg X.base CX k f fd ps sp) (hr:Room k X.A) (hg:Gl X x) (hm:X.mg x = some (.ref f)) (hk:PySem.W.keepIn X.K (.ref f) = true) (hb:Binds X.K fd ps ds) (hd:Vals dvs ds) (hx:Passes CX X E)
    (ha:PA X (e :: es) t) (hdb:(x == ("__debug__" : Str)) = false:=by decide) (he:starEach (e :: es) X.env = (false,eval e X.env) :: starEach es X.env:=by rfl) (hpl:(backTo pos (starEach es X.env)).any (·.1) = false:=by rfl) :
    PE X (.Call (.Name x p) (e :: es) [] pos) (tCall sp dvs E t):=by
  intro pins s σ H Q I h
  refine wpAny_Call_Name_kw (ld_glob I hg hm ?_ hdb)
  refine PySem.W.callWith_K (h₀:=X.base) I.ok.mod.kin hk (thn (ha pos pins s σ H _ I h) fun us s1 ⟨vs,H1,I1,r,q⟩=>⟨I1.kIn,?_⟩) he hpl
  exact run_fn F hr hb hd hx I1 r q
theorem pe_meth {pl:Sem Bool} (he:PE X o ta) (c:Cls X.K C) (hm:Meth X.K C m f) (F:FnOk X.prog X.w X.K X.mg X.base CX k f fd ps sp) (hr:Room k X.A) (hb:Binds X.K fd ps ds) (hd:Vals dvs ds) (hx:Passes CX X E) (ha:PA X (e :: es) t)
    (hst:starEach (e :: es) X.env = (false,eval e X.env) :: starEach es X.env:=by rfl) (hpl:(backTo pos (starEach es X.env)).any (·.1) = false:=by rfl)
    (ht:eval (.Call (.Attribute o m apos) (e :: es) [] pos) X.env = (do
      let ov ← eval o X.env
      standAt apos.atName
      let (f,first) ← holding [ov] (getMethod ov m pl)
      callWith pos f first (backTo pos (starEach (e :: es) X.env)) (backToKw pos (keywordEach [] X.env))):=by rfl) :
    PE X (.Call (.Attribute o m apos) (e :: es) [] pos) (tMeth C m sp dvs E ta t):=by
  intro pins s σ H Q I h
  refine PySem.W.methodCall_KW (pl:=pl) (thn (he pins s σ H _ I h) fun u s1 ⟨x,H1,I1,rx,a,dx,fs,ex,ea,l,q⟩=>?_) ht
  subst ex
  obtain rfl:u = Value.ref a:=rx
  refine getmeth_ok I1 ea c hm l ?_
  refine PySem.W.callWith_K (first:=[.ref a]) (h₀:=X.base) I.ok.mod.kin hm.kp (thn (ha pos pins s1 σ H1 _ I1 q) fun us s2 ⟨vs,H2,I2,r,q2⟩=>⟨I2.kIn,?_⟩) hst hpl
  exact run_fn (us:=.ref a :: us) (vs:=.ref a :: vs) F hr hb hd hx I2 (.cons rfl r) q2
theorem pe_meth0 {pl:Sem Bool} (he:PE X o ta) (c:Cls X.K C) (hm:Meth X.K C m f) (F:FnOk X.prog X.w X.K X.mg X.base CX k f fd ps sp) (hr:Room k X.A) (hb:Binds X.K fd ps ds) (hd:Vals dvs ds) (hx:Passes CX X E)
    (ht:eval (.Call (.Attribute o m apos) [] [] pos) X.env = (do
      let ov ← eval o X.env
      standAt apos.atName
      let (f,first) ← holding [ov] (getMethod ov m pl)
      callWith pos f first (backTo pos (starEach [] X.env)) (backToKw pos (keywordEach [] X.env))):=by rfl) :
    PE X (.Call (.Attribute o m apos) [] [] pos) (tMeth C m sp dvs E ta tNil):=by
  intro pins s σ H Q I h
  refine PySem.W.methodCall_KW (pl:=pl) (thn (he pins s σ H _ I h) fun u s1 ⟨x,H1,I1,rx,a,dx,fs,ex,ea,l,q⟩=>?_) ht
  subst ex
  obtain rfl:u = Value.ref a:=rx
  refine getmeth_ok I1 ea c hm l ?_
  exact PySem.W.callWith_K0 (first:=[.ref a]) I1.kIn hm.kp (run_fn (us:=[.ref a]) (vs:=[.ref a]) F hr hb hd hx I1 (.cons rfl .nil) q)
structure Mk (K:PySem.W.Frag) (C f:Addr):Prop where
  makes:PySem.W.makesIn K C = true
  init:PySem.W.findIn K (.ref C) "__init__" = some (some (.ref f))
  fn:PySem.W.isFn K (.ref f) = true
  kp:PySem.W.keepIn K (.ref C) = true
theorem run_make {pins:List (Addr × Obj)} {σ:St} {H:Hp} {s:Shared} {Q:VK} {us:List Value} {vs:List V} (M:Mk X.K C f) (F:FnOk X.prog X.w X.K X.mg X.base CX k f fd ps sp) (hr:Room (k + 1) X.A) (hb:Binds X.K fd ps ds) (hd:Vals dvs ds)
    (hx:Passes CX X E) (I:Inv X pins σ H s) (r:Vals vs us)
    (h:∀ x dx,H x = none→H dx = none→dx≠x→sp (.ref x :: (vs ++ dvs)) (upd (upd H dx (.own x)) x (.ins C dx [])) (fun v H2=>v = .non∧Q (.ref x) H2) E) :
    wpAny (model X.prog X.w) X.A (call (.ref C) us) (EP X pins σ Q) X.xe s:=by
  have hq:=h (s.heap.objs.size + 1) s.heap.objs.size (I.hok.fresh (Nat.le_succ _)) (I.hok.fresh (Nat.le_refl _)) (Nat.ne_of_lt (Nat.lt_succ_self _))
  have I2:=Inv.made (C:=C) I
  have r2:Vals (V.ref (s.heap.objs.size + 1) :: (vs ++ dvs)) (Value.ref (s.heap.objs.size + 1) :: (us ++ ds)):=.cons rfl (r.append hd)
  have hl:(Value.ref (s.heap.objs.size + 1) :: us ++ ds).length = ps.length:=by
    have e:=r2.length
    rw [F.len _ _ _ _ hq] at e
    exact e.symm
  refine wpAny_call (make_map (f:=f) I.kIn M.makes M.init (beq_iff_eq.mp M.fn) (codeAny_mono (F.run _ X.stack _ _ ⟨Value.ref (s.heap.objs.size + 1) :: us,[]⟩ (Value.ref (s.heap.objs.size + 1) :: (us ++ ds)) _ _ E (hr.make C us [])
    (I2.env0.make C us []) (hb _ (Value.ref (s.heap.objs.size + 1) :: us) I2.kIn hl) r2 hq) fun r s' hq'=>?_))
  cases r with
  | error e=>exact hx pins σ _ _ e s' I2 hq'
  | ok fl =>
    cases fl with
    | ret u =>
      obtain ⟨v,H',I3,rv,ev,q3⟩:=I2.after hq'
      subst ev
      exact ⟨rv,⟨V.ref (s.heap.objs.size + 1),H',I3,rfl,q3⟩⟩
    | next=>exact False.elim hq'
    | brk=>exact False.elim hq'
    | cont=>exact False.elim hq'
theorem pe_make (M:Mk X.K C f) (F:FnOk X.prog X.w X.K X.mg X.base CX k f fd ps sp) (hr:Room (k + 1) X.A) (hg:Gl X x) (hm:X.mg x = some (.ref C)) (hb:Binds X.K fd ps ds) (hd:Vals dvs ds) (hx:Passes CX X E)
    (ha:PA X (e :: es) t) (hdb:(x == ("__debug__" : Str)) = false:=by decide) (he:starEach (e :: es) X.env = (false,eval e X.env) :: starEach es X.env:=by rfl) (hpl:(backTo pos (starEach es X.env)).any (·.1) = false:=by rfl) :
    PE X (.Call (.Name x p) (e :: es) [] pos) (tMake C sp dvs E t):=by
  intro pins s σ H Q I h
  refine wpAny_Call_Name_kw (ld_glob I hg hm ?_ hdb)
  refine PySem.W.callWith_K (h₀:=X.base) I.ok.mod.kin M.kp (thn (ha pos pins s σ H _ I h) fun us s1 ⟨vs,H1,I1,r,q⟩=>⟨I1.kIn,?_⟩) he hpl
  exact run_make M F hr hb hd hx I1 r q
end
structure FnScope (N P:List Str) (sc:Scope):Prop where
  kind:sc.kind = .function
  co:sc.isCoroutine = false
  gen:sc.isGenerator = false
  nd:N.Nodup
  pre:N.take P.length = P
  par:∀ x∈P,sc.names.lookup x = some .local∨sc.names.lookup x = some .cell
  nofree:∀ y∈sc.names,y.2≠.free
theorem bindL_out {kindOf:Str→Option NameKind} {x:Str}:∀ {binds:List (Str × Value)} {m:Str→Option Value},(∀ v,(x,v) ∉ binds)→bindL kindOf binds m x = m x
  | [],_,_=>rfl
  | (n,v) :: r,m,h=>by
    unfold bindL
    rw [bindL_out fun w hw=>h w (List.mem_cons_of_mem _ hw)]
    split
    · have:x≠n:=by rintro rfl; exact h v List.mem_cons_self
      simp [this]
    · rfl
theorem bindC_out {kindOf:Str→Option NameKind} {x:Str}:∀ {binds:List (Str × Value)} {m:Str→Option Value},(∀ v,(x,v) ∉ binds)→bindC kindOf binds m x = m x
  | [],_,_=>rfl
  | (n,v) :: r,m,h=>by
    unfold bindC
    rw [bindC_out fun w hw=>h w (List.mem_cons_of_mem _ hw)]
    split
    · rfl
    · have:x≠n:=by rintro rfl; exact h v List.mem_cons_self
      simp [this]
theorem bindL_get {kindOf:Str→Option NameKind} {x:Str} {v:Value}:∀ {P:List Str} {vs:List Value} {i:Nat} {m:Str→Option Value},P.Nodup→P[i]? = some x→vs[i]? = some v→kindOf x = some .local →
    bindL kindOf (P.zip vs) m x = some v
  | [],_,_,_,_,h,_,_=>by simp at h
  | _ :: _,[],_,_,_,_,h,_=>by simp at h
  | p :: P,w :: vs,0,m,nd,h1,h2,hk=>by
    simp at h1 h2; subst h1; subst h2
    show bindL kindOf ((p,w) :: P.zip vs) m p = _
    unfold bindL
    rw [bindL_out fun v hv=>(List.nodup_cons.mp nd).1 (List.of_mem_zip hv).1,if_pos hk]
    simp
  | p :: P,w :: vs,i + 1,m,nd,h1,h2,hk=>by
    show bindL kindOf ((p,w) :: P.zip vs) m x = _
    unfold bindL
    exact bindL_get (i:=i) (List.nodup_cons.mp nd).2 (by simpa using h1) (by simpa using h2) hk
theorem bindC_get {kindOf:Str→Option NameKind} {x:Str} {v:Value}:∀ {P:List Str} {vs:List Value} {i:Nat} {m:Str→Option Value},P.Nodup→P[i]? = some x→vs[i]? = some v→kindOf x≠some .local →
    bindC kindOf (P.zip vs) m x = some v
  | [],_,_,_,_,h,_,_=>by simp at h
  | _ :: _,[],_,_,_,_,h,_=>by simp at h
  | p :: P,w :: vs,0,m,nd,h1,h2,hk=>by
    simp at h1 h2; subst h1; subst h2
    show bindC kindOf ((p,w) :: P.zip vs) m p = _
    unfold bindC
    rw [bindC_out fun v hv=>(List.nodup_cons.mp nd).1 (List.of_mem_zip hv).1,if_neg hk]
    simp
  | p :: P,w :: vs,i + 1,m,nd,h1,h2,hk=>by
    show bindC kindOf ((p,w) :: P.zip vs) m x = _
    unfold bindC
    exact bindC_get (i:=i) (List.nodup_cons.mp nd).2 (by simpa using h1) (by simpa using h2) hk
def start (N:List Str) (vs:List V):St:=vs.map some ++ List.replicate (N.length - vs.length) none
def cxOf (CX:CXT) (P:Program) (w:World) (K:PySem.W.Frag) (mg:Str→Option Value) (base:Heap) (N:List Str) (qual:Str) (scope:Scope) (f:Addr) (cd:Value) (A:Around) (outer:List Env) (s:Shared) (H:Hp) (E:XK):Cx where
  prog:=P
  w:=w
  K:=K
  mg:=mg
  base:=base
  A:=A.deeper (envOfC qual scope s.heap.objs.size f cd)
  N:=N
  s₀:=s
  H₀:=H
  env:=envOfC qual scope s.heap.objs.size f cd
  outer:=outer
  stack:=envOfC qual scope s.heap.objs.size f cd :: outer
  ex:=[]
  calm:=true
  fn:=fun _=>true
  pn:=[]
  xe:=fun e s'=>wpAny (model P w) (A.deeper (envOfC qual scope s.heap.objs.size f cd)) (leaving (envOfC qual scope s.heap.objs.size f cd) e) (fun _ s''=>CX outer H s E e s'') (fun e' s''=>CX outer H s E e' s'') s'
theorem cell_has {sc:Scope} {n:Nat} {x:Str} (h:sc.names.lookup x = some .cell):∃ c,(cellsFrom n sc.names []).lookup x = some c:=by
  have q:=PySem.W.cellsFrom_some sc.names n [] (.inl h)
  exact Option.isSome_iff_exists.mp q
theorem inv_start {CX:CXT} {P:Program} {w:World} {K:PySem.W.Frag} {mg:Str→Option Value} {base:Heap} {N ps:List Str} {qual:Str} {scope:Scope} {f:Addr} {cd:Value} {A:Around} {outer:List Env} {s s1:Shared} {H:Hp} {E:XK} {us:List Value} {vs:List V}
    (S:FnScope N ps scope) (hd:A.handled = none) (e0:Env0 P w K mg base A outer s H) (hl:vs.length = ps.length) (r:Vals vs us)
    (x:InCallC s s.heap.objs.size (bindL (envOfC qual scope s.heap.objs.size f cd).kindOf (ps.zip us) fun _=>none) (cellsFrom (s.heap.objs.size + 1) scope.names []) (bindC (envOfC qual scope s.heap.objs.size f cd).kindOf (ps.zip us) fun _=>none) s1) :
    Inv (cxOf CX P w K mg base N qual scope f cd A outer s H E) [] (start N vs) H s1:=by
  have hpl:ps.length≤N.length:=by have:=congrArg List.length S.pre; rw [List.length_take] at this; omega
  obtain ⟨h1,tk,rfl,hk⟩:=x.done
  have noA:∀ b:Addr,b ∉ (cxOf CX P w K mg base N qual scope f cd A outer s H E).ex:=fun b z=>absurd (show b∈([]:List Addr) from z) (by simp)
  refine ⟨⟨e0.mod,S.kind,rfl,rfl,Nat.le_refl _,fun y z c h1 h2=>?_,fun y hy=>?_,fun y c _ h=>?_,fun _=>hd,Around.frames_deeper e0.frames,.inr ⟨rfl,rfl⟩,fun b z=>absurd z (noA b),e0.bs,e0.bsz,fun b _ _=>noA b,fun b z=>absurd z (noA b),e0.funs,e0.frf⟩,
    rfl,e0.bare,Un.kept hk,⟨_,x.toInCall.ns,fun i y v h1 h2 h3=>?_⟩,fun y c h=>⟨_,x.cell y c h⟩,e0.hok.fresh (Nat.le_refl _),fun y c h=>?_,fun p hp=>absurd (show p∈([]:List (Addr × Obj)) from hp) (by simp),e0.hok.kept hk,?_⟩
  · exact name_of_addr x.apart (PySem.mem_of_lookup h1) (PySem.mem_of_lookup h2)
  · have hy:scope.names.lookup y = some .cell∨scope.names.lookup y = some .free:=hy
    rcases hy with hy | hy
    · exact cell_has hy
    · exact absurd rfl (S.nofree _ (PySem.mem_of_lookup hy))
  · exact Nat.le_of_lt (x.above y c (PySem.mem_of_lookup h))
  · have hi:i < vs.length:=by
      unfold start at h2
      by_cases hi:i < vs.length
      · exact hi
      · rw [List.getElem?_append_right (by simpa using hi)] at h2
        rw [List.getElem?_replicate] at h2
        split at h2 <;> cases h2
    have ha:vs[i]? = some v:=by
      unfold start at h2
      rw [List.getElem?_append_left (by simpa using hi),List.getElem?_map] at h2
      cases e:vs[i]? with
      | none=>rw [e] at h2; cases h2
      | some a=>rw [e] at h2; cases h2; rfl
    obtain ⟨u,hu,rv⟩:=r.get ha
    have hp:ps[i]? = some y:=by
      rw [← S.pre,List.getElem?_take_of_lt (by omega)]; exact h1
    have ndP:ps.Nodup:=by rw [← S.pre]; exact S.nd.sublist (List.take_sublist _ _)
    refine ⟨u,rv,?_⟩
    rcases S.par y (List.mem_of_getElem? hp) with k | k
    · exact .inl ⟨k,bindL_get ndP hp hu k⟩
    · obtain ⟨c,e⟩:=cell_has (n:=s.heap.objs.size + 1) k
      refine .inr ⟨.inl k,c,e,?_⟩
      have q:=x.cell y c e
      rw [bindC_get ndP hp hu (by show scope.names.lookup y≠_; rw [k]; decide)] at q
      exact q
  · exact e0.hok.fresh (Nat.le_of_lt (x.above y c (PySem.mem_of_lookup h)))
  · unfold start
    show _ = N.length
    rw [List.length_append,List.length_map,List.length_replicate]
    omega
theorem fn_of {CX:CXT} {P:Program} {w:World} {K:PySem.W.Frag} {mg:Str→Option Value} {base:Heap} {k:Nat} {f:Addr} {name qual:Str} {params:Arguments} {body:List Stmt} {scope:Scope} {dV kV doc pm cdv ct oc:Value} {an od:Option Addr}
    {osl:Array (Option Value)} {N ps:List Str} {sp:Sp} (lk:K.lookup f = some ⟨oc,od,.func (PySem.W.fnOf name qual params body scope dV kV doc pm an cdv ct),osl⟩) (hcd:PySem.W.codeIn K cdv qual = true) (S:FnScope N ps scope)
    (len:∀ vs H Q E,sp vs H Q E→vs.length = ps.length)
    (hbody:∀ (A:Around) (outer:List Env) (s:Shared) (H:Hp) (vs:List V) (Q:VK) (E:XK),Room k (A.deeper (envOfC qual scope s.heap.objs.size f cdv))→sp vs H Q E →
      ∃ t,PSs (cxOf CX P w K mg base N qual scope f cdv A outer s H E) body t∧t { nx:=fun _ H'=>Q .non H',rt:=Q } (start N vs) H) :
    FnOk P w K mg base CX (k + 1) f (PySem.W.fnOf name qual params body scope dV kV doc pm an cdv ct) ps sp:=by
  refine ⟨len,fun A outer s H args us vs Q E hr e0 hb r hsp=>?_⟩
  have hl:=len _ _ _ _ hsp
  have KX:K.In s.heap:=e0.mod.kin.keeps fun b o e=>(e0.bs b o e).1
  have lim:s.heap.NoLimit:=e0.mod.nolimit.keeps fun b o e=>(e0.bs b o e).1
  have hkind:∀ y∈ps.zip us,scope.names.lookup y.1 = some .local∨(scope.names.lookup y.1 = some .cell∧((cellsFrom (s.heap.objs.size + 1) scope.names []).lookup y.1).isSome = true):=fun ⟨n,v⟩ hy=>by
    rcases S.par n (List.of_mem_zip hy).1 with q | q
    · exact .inl q
    · exact .inr ⟨q,PySem.W.cellsFrom_some _ _ _ (.inl q)⟩
  refine codeAny_call_function hr.depth (KX _ _ lk) rfl S.co S.gen rfl (PySem.W.codeRec_of KX hcd) (hb _ _ _ _ ?_)
  refine wpAny_newFunctionEnv_cells S.kind hkind fun env he s1 x=>?_
  subst he
  refine ⟨lim.keeps x.toInCall.keep,codeAny_func ?_⟩
  obtain ⟨t,ht,hq⟩:=hbody A outer s H vs Q E (hr.deeper _) hsp
  have I:Inv (cxOf CX P w K mg base N qual scope f cdv A outer s H E) [] (start N vs) H s1:=inv_start S hr.hd e0 hl r x
  refine wpAny_mono (ht [] s1 (start N vs) H _ I hq) (fun fl s' hs=>?_) fun e s' hs=>hs
  have fin:∀ {σ':St} {H':Hp} {v:V} {u:Value},Inv (cxOf CX P w K mg base N qual scope f cdv A outer s H E) [] σ' H' s'→RelV v u→Q v H'→CE outer P w H s Q u s' :=
    fun {σ' H' v u} J rv q=>⟨v,H',J.os,J.bare,J.base,J.hok,rv,q⟩
  cases fl with
  | ret u =>
    obtain ⟨v,σ',H',J,rv,q⟩:=hs
    exact fin J rv q
  | next =>
    obtain ⟨σ',H',J,q⟩:=hs
    exact fin (v:=V.non) (u:=Value.none) J rfl q
  | brk =>
    obtain ⟨_,_,_,q⟩:=hs
    exact False.elim q
  | cont =>
    obtain ⟨_,_,_,q⟩:=hs
    exact False.elim q
end L2
namespace L2
open PySem PySem.Spec PyProof.Rows
section
variable {X:Cx} {x:Str} {p pos:Pos} {e:Expr} {es:List Expr} {t:TA} {id T:String} {r:List V→Hp→VK→Prop}
def tCB (r:List V→Hp→VK→Prop) (t:TA):TE:=fun σ H Q=>t σ H fun vs H1=>r vs H1 Q
theorem pe_callB (hc:CallR X (.builtin id) r) (hg:Gl X x) (hm:X.mg x = none) (hv:bootBuiltins x = some (.builtin id)) (ha:PA X (e :: es) t) (hn:x ≠ "__name__" := by decide) (hdb:(x == ("__debug__" : Str)) = false:=by decide)
    (he:starEach (e :: es) X.env = (false,eval e X.env) :: starEach es X.env:=by rfl) (hpl:(backTo pos (starEach es X.env)).any (·.1) = false:=by rfl):PE X (.Call (.Name x p) (e :: es) [] pos) (tCB r t):=by
  intro pins s σ H Q I h
  refine wpAny_Call_Name_kw (ld_blt I hg hm hv ?_ hn hdb)
  exact PyProof.Rows.callWith_builtin1 (thn (ha pos pins s σ H _ I h) fun us s1 ⟨vs,H1,I1,r1,q1⟩=>hc pins s1 σ H1 vs us Q I1 r1 q1) he hpl
theorem pe_callTy (hc:CallR X (.type T) r) (hg:Gl X x) (hm:X.mg x = none) (hv:bootBuiltins x = some (.type T)) (ha:PA X (e :: es) t) (hn:x ≠ "__name__" := by decide) (hdb:(x == ("__debug__" : Str)) = false:=by decide)
    (he:starEach (e :: es) X.env = (false,eval e X.env) :: starEach es X.env:=by rfl) (hpl:(backTo pos (starEach es X.env)).any (·.1) = false:=by rfl):PE X (.Call (.Name x p) (e :: es) [] pos) (tCB r t):=by
  intro pins s σ H Q I h
  refine wpAny_Call_Name_kw (ld_blt I hg hm hv ?_ hn hdb)
  exact PyProof.Rows.callWith_type1 (thn (ha pos pins s σ H _ I h) fun us s1 ⟨vs,H1,I1,r1,q1⟩=>hc pins s1 σ H1 vs us Q I1 r1 q1) he hpl
end
end L2
namespace HT
open PySem PyProof.Rows
section
variable {prog:Program} {w:World} {A:Around} {E:Value→Shared→Prop} {s:Shared}
def sIx (n d:Nat):Option Int→Nat
  | none=>d
  | some v=>if v < 0 then (v + (n:Int)).toNat else min v.toNat n
theorem sIx_none (n d:Nat):sIx n d none = d:=rfl
theorem sIx_nat (n d k:Nat):sIx n d (some (k:Int)) = min k n:=by
  show (if (k:Int) < 0 then ((k:Int) + (n:Int)).toNat else min (k:Int).toNat n) = min k n
  rw [if_neg (by omega),Int.toNat_natCast]
theorem sIx_le (n d:Nat) (hd:d≤n) (o:Option Int):sIx n d o≤n:=by
  cases o with
  | none=>exact hd
  | some v =>
    show (if v < 0 then (v + (n:Int)).toNat else min v.toNat n)≤n
    by_cases hv:v < 0
    · rw [if_pos hv]; omega
    · rw [if_neg hv]; exact Nat.min_le_right _ _
theorem clip_eq (v:Int) (n d:Nat):(if v < 0 then max (v + (n:Int)) 0 else min v (n:Int)) = ((sIx n d (some v):Nat):Int):=by
  show (if v < 0 then max (v + (n:Int)) 0 else min v (n:Int)) = (((if v < 0 then (v + (n:Int)).toNat else min v.toNat n):Nat):Int)
  by_cases hv:v < 0
  · simp only [if_pos hv]; omega
  · simp only [if_neg hv]; omega
theorem adjust_gen (lo hi:Option Int) (n:Nat):Builtin.Slice.sliceAdjust lo hi 1 (n:Int) = (((sIx n 0 lo:Nat):Int),((sIx n n hi:Nat):Int)):=by
  have h1:¬ ((1:Int) < 0):=by omega
  unfold Builtin.Slice.sliceAdjust
  simp only [h1,if_false]
  refine Prod.ext ?_ ?_
  · cases lo with
    | none=>rfl
    | some v=>exact clip_eq v n 0
  · cases hi with
    | none=>rfl
    | some v=>exact clip_eq v n n
theorem places_gen (i j:Nat):Builtin.Slice.slicePlaces (i:Int) (j:Int) 1 = j - i:=by
  unfold Builtin.Slice.slicePlaces
  have h1:(1:Int) > 0:=by omega
  simp only [h1,if_true,Int.ediv_one]
  split <;> omega
theorem slicePart_ {v:Value} {o:Option Int} {Q:Option Int→Shared→Prop} (p:IsPart v o) (h:Q o s):wpAny (model prog w) A (Builtin.Slice.slicePartIndex v) Q E s:=by
  cases p with
  | none=>exact slicePart_none h
  | int i t=>exact slicePart_int h
theorem sliceApplied_gen {sl:Addr} {vl vu:Value} {lo hi:Option Int} {n:Nat} {Q:Int × Int × Nat→Shared→Prop} (hs:s.heap.IsSliceOf sl vl vu .none) (pl:IsPart vl lo) (pu:IsPart vu hi)
    (h:Q (((sIx n 0 lo:Nat):Int),1,sIx n n hi - sIx n 0 lo) s):wpAny (model prog w) A (Builtin.Slice.sliceApplied (.ref sl) (pure (n:Int))) Q E s:=by
  obtain ⟨os,hos,hcs,hds⟩:=id hs
  unfold Builtin.Slice.sliceApplied Builtin.Slice.sliceFields
  refine wpAny_bind (wpAny_bind (wpAny_field hos hds (x:=vl) rfl (wpAny_bind (wpAny_field hos hds (x:=vu) rfl (wpAny_bind (wpAny_field hos hds (x:=.none) rfl (wpAny_pure ?_)))))))
  refine wpAny_bind (slicePart_none ?_)
  show wpAny _ _ (if ((1:Int) == 0) = true then _ else _) _ _ s
  rw [if_neg (by decide)]
  refine wpAny_bind (slicePart_ pl (wpAny_bind (slicePart_ pu (wpAny_bind (wpAny_pure ?_)))))
  show wpAny _ _ (match Builtin.Slice.sliceAdjust lo hi 1 (n:Int) with | (lo,hi)=>pure (lo,(1:Int),Builtin.Slice.slicePlaces lo hi 1)) _ _ s
  rw [adjust_gen lo hi n]
  show wpAny _ _ (pure (((sIx n 0 lo:Nat):Int),(1:Int),Builtin.Slice.slicePlaces ((sIx n 0 lo:Nat):Int) ((sIx n n hi:Nat):Int) 1)) _ _ s
  rw [places_gen]
  exact wpAny_pure h
theorem pick_gen (xs:Array Value) (i k:Nat):((List.range k).filterMap fun (m:Nat)=>xs[((i:Int) + (m:Int) * 1).toNat]?).toArray = ((xs.toList.drop i).take k).toArray:=by
  have e:(fun (m:Nat)=>xs[((i:Int) + (m:Int) * 1).toNat]?) = fun m=>xs[i + m]?:=by
    funext m
    have:((i:Int) + (m:Int) * 1).toNat = i + m:=by omega
    rw [this]
  rw [e]
  have:=pick_run xs i k
  rw [List.filterMap_map] at this
  have e2:((fun x=>xs[x]?) ∘ fun x=>i + x) = fun m=>xs[i + m]?:=rfl
  rw [e2] at this
  rw [this]
theorem getItem_tuple_cut {t sl:Addr} {items:Array Value} {vl vu:Value} {lo hi:Option Int} {Q:Value→Shared→Prop} (ht:IsTup s.heap t items) (hs:s.heap.IsSliceOf sl vl vu .none) (pl:IsPart vl lo) (pu:IsPart vu hi)
    (hw:¬ (sIx items.size 0 lo = 0∧sIx items.size items.size hi = items.size))
    (h:Q (.ref s.heap.objs.size) { s with heap:=s.heap.push { cls:=.type "tuple", data:=.seq ((items.toList.drop (sIx items.size 0 lo)).take (sIx items.size items.size hi - sIx items.size 0 lo)).toArray } })
    (hsz:items.size≤sizeLine):wpAny (model prog w) A (getItem (.ref t) (.ref sl)) Q E s:=by
  have htake:sizeOk (.seq ((items.toList.drop (sIx items.size 0 lo)).take (sIx items.size items.size hi - sIx items.size 0 lo)).toArray):=by
    show ((items.toList.drop (sIx items.size 0 lo)).take (sIx items.size items.size hi - sIx items.size 0 lo)).toArray.size≤sizeLine
    rw [List.size_toArray,List.length_take,List.length_drop,Array.length_toList]
    omega
  have hj:sIx items.size items.size hi≤items.size:=sIx_le _ _ (Nat.le_refl _) hi
  obtain ⟨os,hos,hcs,hds⟩:=id hs
  have hTs:s.TypeIs (.ref sl) "slice" := ⟨os,hos,hcs⟩
  unfold getItem
  try with_reducible refine wpAny_holding ?_
  first | refine wpAny_bind (wpAny_pure ?_) | skip
  refine wpAny_bind (wpAny_sequenceKey ht.typeIs (by decide) ?_)
  refine wpAny_bind (wpAny_callSpecial?_slot (name:=Str.ofString "__getitem__") ht.typeIs PyProof.Rows.slot_tuple_getitem
    (wpAny_call_entry PyProof.Rows.slot_tuple_getitem ht.typeIs entry_tuple_getitem ?_ (args_tuple_getitem _ _)))
  show wpAny _ _ (Builtin.Tuple.tupleItemsOf (.ref t) >>= _) _ _ s
  refine wpAny_bind (tupleItemsOf_ ht ?_)
  refine wpAny_bind (wpAny_typeOf hTs ?_)
  rw [if_pos (by decide)]
  refine wpAny_bind (sliceApplied_gen hs pl pu ?_)
  have hno:¬ ((((sIx items.size 0 lo:Nat):Int) == 0 && (1:Int) == 1 && (sIx items.size items.size hi - sIx items.size 0 lo) == items.size) = true):=by
    intro q
    rw [Bool.and_eq_true,Bool.and_eq_true] at q
    have q1:((sIx items.size 0 lo:Nat):Int) = 0:=eq_of_beq q.1.1
    have q2:sIx items.size items.size hi - sIx items.size 0 lo = items.size:=eq_of_beq q.2
    exact hw ⟨by omega,by omega⟩
  show wpAny _ _ (if (((sIx items.size 0 lo:Nat):Int) == 0 && (1:Int) == 1 && (sIx items.size items.size hi - sIx items.size 0 lo) == items.size) = true then _ else _) _ _ s
  rw [if_neg hno,pick_gen]
  first
    | exact wpAny_bind (m:=Builtin.Tuple.tupleExact _) (wpAny_newObj_type (wpAny_pure ⟨_,rfl,wpAny_pure h⟩) htake)
    | exact wpAny_bind (m:=Builtin.Tuple.tupleExact _) (wpAny_newObj_type (wpAny_bind (wpAny_pure (wpAny_pure ⟨_,rfl,wpAny_pure h⟩))) htake)
    | exact wpAny_bind (wpAny_bind (m:=Builtin.Tuple.tupleExact _) (wpAny_newObj_type (wpAny_pure (wpAny_pure ⟨_,rfl,wpAny_pure h⟩)) htake))
    | exact wpAny_bind (wpAny_bind (m:=Builtin.Tuple.tupleExact _) (wpAny_newObj_type (wpAny_pure ⟨_,rfl,wpAny_pure h⟩) htake))
end
end HT
namespace L2
open PySem PySem.Spec PyProof.Rows
abbrev TO:=St→Hp→(Option Int→Hp→Prop)→Prop
def PO (X:Cx) (e:Option Expr) (t:TO):Prop :=
  ∀ (pins:List (Addr × Obj)) (s:Shared) (σ:St) (H:Hp) (Q:Option Int→Hp→Prop),Inv X pins σ H s→t σ H Q →
    wpAny (model X.prog X.w) X.A (evalPart e X.env) (fun u s'=>∃ o H',Inv X pins σ H' s'∧IsPart u o∧Q o H') X.xe s
def tNoPart:TO:=fun _ H Q=>Q none H
def tPart (t:TE):TO:=fun σ H Q=>t σ H fun x H1=>∃ i,x = .int i∧Q (some i) H1
theorem intsAre_of {ns:List Int}:∀ {us:List Value},Vals (ns.map V.int) us→IntsAre us ns:=by
  induction ns with
  | nil=>intro us r; rw [List.map_nil] at r; cases r; exact .nil
  | cons n ns ih =>
    intro us r
    rw [List.map_cons] at r
    cases r with
    | cons r1 r2 =>
      obtain ⟨t,e⟩:=r1
      subst e
      exact .cons n t (ih r2)
section
variable {X:Cx} {e:Expr} {te:TE} {lo hi:Option Expr} {tl th:TO} {pos p2:Pos}
theorem po_none:PO X none tNoPart:=by
  intro pins s σ H Q I h
  rw [evalPart_none]
  exact wpAny_pure ⟨none,H,I,.none,h⟩
theorem po_some (h:PE X e te):PO X (some e) (tPart te):=by
  intro pins s σ H Q I hw
  rw [evalPart_some]
  refine thn (h pins s σ H _ I hw) fun u s1 ⟨x,H1,I1,r1,q1⟩=>?_
  obtain ⟨i,rfl,q⟩:=q1
  obtain ⟨t,rfl⟩:=r1
  exact ⟨some i,H1,I1,.int i t,q⟩
def SlR (X:Cx) (r:V→Option Int→Option Int→Hp→VK→Prop):Prop :=
  ∀ (pins:List (Addr × Obj)) (s:Shared) (σ:St) (H:Hp) (x:V) (v vl vu:Value) (lo hi:Option Int) (sl:Addr) (Q:VK),Inv X pins σ H s→RelV x v→s.heap.IsSliceOf sl vl vu .none→IsPart vl lo→IsPart vu hi→r x lo hi H Q →
    ∃ T id,typeLookup (.type T) "__getitem__" = pure (some (.builtin id))∧s.TypeIs v T∧wpAny (model X.prog X.w) X.A (getItem v (.ref sl)) (EP X pins σ Q) X.xe s
def tSl (r:V→Option Int→Option Int→Hp→VK→Prop) (te:TE) (tl th:TO):TE:=fun σ H Q=>te σ H fun x H1=>tl σ H1 fun l H2=>th σ H2 fun u H3=>r x l u H3 Q
theorem pe_slice {r:V→Option Int→Option Int→Hp→VK→Prop} (hr:SlR X r) (he:PE X e te) (hl:PO X lo tl) (hu:PO X hi th):PE X (.Subscript e (.Slice lo hi none p2) pos) (tSl r te tl th):=by
  intro pins s σ H Q I h
  refine Subscript_ (thn (he pins s σ H _ I h) fun v s1 ⟨x,H1,I1,r1,q1⟩=>?_)
  refine wpAny_Slice (thn (hl pins s1 σ H1 _ I1 q1) fun vl s2 ⟨l,H2,I2,pl,q2⟩=>thn (hu pins s2 σ H2 _ I2 q2) fun vu s3 ⟨u,H3,I3,pu,q3⟩=>?_)
  rw [evalPart_none]
  refine wpAny_pure ?_
  have I4:Inv X pins σ H3 { s3 with heap:=s3.heap.push { cls:=.type "slice", data:=.fields #[vl,vu,.none] } }:=I3.kept (t':=s3.toks) fun b ob q=>Heap.get?_push_of_some _ q
  obtain ⟨T,id,hT,ht,hg⟩:=hr pins { s3 with heap:=s3.heap.push { cls:=.type "slice", data:=.fields #[vl,vu,.none] } } σ H3 x v vl vu l u s3.heap.objs.size Q I4 r1 (Heap.IsSliceOf.new ..) pl pu q3
  show wpAny (model X.prog X.w) X.A (subscriptTail e (.Slice lo hi none p2) v (.ref s3.heap.objs.size)) (EP X pins σ Q) X.xe { s3 with heap:=s3.heap.push { cls:=.type "slice", data:=.fields #[vl,vu,.none] } }
  exact tail_any (ops:=[.ref s3.heap.objs.size,v]) ht hT hg (by with_unfolding_all rfl)
def cutV (xs:List V) (lo hi:Option Int):List V:=(xs.drop (HT.sIx xs.length 0 lo)).take (HT.sIx xs.length xs.length hi - HT.sIx xs.length 0 lo)
theorem cutV_length (xs:List V) (lo hi:Option Int):(cutV xs lo hi).length≤xs.length:=by
  unfold cutV
  rw [List.length_take,List.length_drop]
  omega
def rSlT (K:PySem.W.Frag):V→Option Int→Option Int→Hp→VK→Prop:=fun x lo hi H Q=>∃ a xs,x = .ref a∧SqT K H a xs ∧
  ¬ (HT.sIx xs.length 0 lo = 0∧HT.sIx xs.length xs.length hi = xs.length)∧∀ p,H p = none→Q (.ref p) (upd H p (.tup (cutV xs lo hi)))
theorem sl_tup:SlR X (rSlT X.K):=by
  intro pins s σ H x v vl vu lo hi sl Q I rx hs pl pu h
  obtain ⟨a,xs,rfl,hx,hw,q⟩:=h
  cases rx
  obtain ⟨its,r,ht,hz⟩:=I.tuple hx
  have hlen:its.toArray.size = xs.length:=by rw [List.size_toArray]; exact r.length.symm
  refine ⟨"tuple", _,PyProof.Rows.slot_tuple_getitem.lookup,ht.typeIs,?_⟩
  refine HT.getItem_tuple_cut ht hs pl pu (by rw [hlen]; exact hw) ?_ (by rw [hlen]; exact hz)
  rw [hlen]
  refine ⟨.ref s.heap.objs.size,_,I.laid (t':=s.toks) (o:=.tup (cutV xs lo hi)) (fun b ob q=>Heap.get?_push_of_some _ q) (Nat.le_refl _) ?_,rfl,q _ (I.hok.fresh (Nat.le_refl _))⟩
  exact ⟨Nat.le_trans (cutV_length xs lo hi) hz,_,(r.drop (HT.sIx xs.length 0 lo)).take (HT.sIx xs.length xs.length hi - HT.sIx xs.length 0 lo),IsTup.new _ _⟩
end
end L2
namespace L2
open PySem PySem.Spec PyProof.Rows
def ixN (n:Nat) (i:Int):Option Nat:=if 0≤i then (if i < n then some i.toNat else none) else if -(n:Int)≤i then some (i + n).toNat else none
def atI {α:Type} (xs:List α) (i:Int):Option α:=(ixN xs.length i).bind fun j=>xs[j]?
theorem ixN_seq {n:Nat} {i:Int} {j:Nat} (h:ixN n i = some j):seqIndex? i n = some j∧j < n∧-(n:Int)≤i∧i < n:=by
  unfold ixN at h
  by_cases h0:0≤i
  · rw [if_pos h0] at h
    by_cases h1:i < n
    · rw [if_pos h1] at h
      have e:i.toNat = j:=Option.some.inj h
      exact ⟨by rw [seqIndex_of h0 h1,e],by omega,by omega,h1⟩
    · rw [if_neg h1] at h; cases h
  · rw [if_neg h0] at h
    by_cases h1:-(n:Int)≤i
    · rw [if_pos h1] at h
      have e:(i + n).toNat = j:=Option.some.inj h
      exact ⟨by rw [seqIndex_neg (by omega) h1,e],by omega,h1,by omega⟩
    · rw [if_neg h1] at h; cases h
theorem atI_get {α:Type} {xs:List α} {i:Int} {v:α} (h:atI xs i = some v):∃ j,seqIndex? i xs.length = some j∧xs[j]? = some v∧j < xs.length∧-(xs.length:Int)≤i∧i < xs.length:=by
  unfold atI at h
  cases e:ixN xs.length i with
  | none=>rw [e] at h; cases h
  | some j =>
    rw [e] at h
    obtain ⟨h1,h2,h3,h4⟩:=ixN_seq e
    exact ⟨j,h1,h,h2,h3,h4⟩
theorem atI_nat {α:Type} {xs:List α} {j:Nat} {v:α} (h:xs[j]? = some v):atI xs (j:Int) = some v:=by
  have hj:j < xs.length:=(List.getElem?_eq_some_iff.mp h).1
  have e:ixN xs.length (j:Int) = some j:=by
    unfold ixN
    rw [if_pos (by omega),if_pos (by omega)]; simp
  unfold atI; rw [e]; exact h
theorem atI_last {α:Type} (xs:List α) (v:α):atI (xs ++ [v]) (-1) = some v:=by
  have hl:(xs ++ [v]).length = xs.length + 1:=by simp
  have e:ixN (xs ++ [v]).length (-1) = some xs.length:=by
    unfold ixN
    rw [hl,if_neg (by decide),if_pos (by omega)]
    congr 1
    omega
  unfold atI
  rw [e]
  show (xs ++ [v])[xs.length]? = some v
  simp
def PlainIx (b:Expr):Prop:=∀ o i,subscripted b false o i = operate [o,i] (getItem o i)
def IxR (X:Cx) (r:R2):Prop :=
  ∀ (value slice:Expr) (pins:List (Addr × Obj)) (s:Shared) (σ:St) (H:Hp) (x y:V) (v u:Value) (Q:VK),Inv X pins σ H s→RelV x v→RelV y u→r x y H Q →
    subscripted slice false v u = operate [v,u] (getItem v u)→wpAny (model X.prog X.w) X.A (subscriptTail value slice v u) (EP X pins σ Q) X.xe s
def MtR (X:Cx) (id:String) (r:V→List V→Hp→VK→Prop):Prop :=
  ∀ (pins:List (Addr × Obj)) (s:Shared) (σ:St) (H:Hp) (x:V) (xs:List V) (v:Value) (us:List Value) (Q:VK),Inv X pins σ H s→RelV x v→Vals xs us→r x xs H Q →
    wpAny (model X.prog X.w) X.A (call (.builtin id) (v :: us)) (EP X pins σ Q) X.xe s
section
variable {X:Cx} {a b:Expr} {ta tb:TE} {pos:Pos}
theorem pe_ix {r:R2} (hr:IxR X r) (ha:PE X a ta) (hb:PE X b tb) (hs:PlainIx b):PE X (.Subscript a b pos) (tOp r ta tb):=by
  intro pins s σ H Q I h
  exact Subscript_ (binT ha hb I h fun v u s2 x y H2 I2 rx ry q=>hr a b pins s2 σ H2 x y v u Q I2 rx ry q (hs _ _))
def rIxL (K:PySem.W.Frag):R2:=fun x y H Q=>∃ p xs i v,x = .ref p∧y = .int i∧SqL K H p xs∧atI xs i = some v∧Q v H
def rIxT (K:PySem.W.Frag):R2:=fun x y H Q=>∃ p xs i v,x = .ref p∧y = .int i∧SqT K H p xs∧atI xs i = some v∧Q v H
def rIxS:R2:=fun x y H Q=>∃ z i c,x = .str z∧y = .int i∧z.length≤sizeLine∧atI z.cps.toList i = some c∧Q (.str ⟨#[c]⟩) H
theorem ix_list:IxR X (rIxL X.K):=by
  intro value slice pins s σ H x y v u Q I rx ry h hs
  obtain ⟨p,xs,i,z,rfl,rfl,hq,he,q⟩:=h
  cases rx
  obtain ⟨t,rfl⟩:=ry
  obtain ⟨its,r,pl,hz⟩:=I.list hq
  obtain ⟨j,h1,h2,h3,h4,h5⟩:=atI_get he
  obtain ⟨w,ew,rw'⟩:=r.get h2
  have hl:=r.length
  have hn:=line63
  have fin:EP X pins σ Q w s:=⟨z,H,I,rw',q⟩
  by_cases h0:0≤i
  · have hj:i.toNat = j:=by
      rw [seqIndex_of h0 h5] at h1
      exact Option.some.inj h1
    exact item_listR pl.isList h0 (by omega) (by rw [hj]; simpa using ew) fin hs
  · have hj:(i + (its.toArray.size:Int)).toNat = j:=by
      rw [seqIndex_neg (by omega) h4] at h1
      rw [List.size_toArray,← hl]
      exact Option.some.inj h1
    exact subscriptTail_builtinR (x:=w) pl.isList.typeIs slot_list_getitem.lookup
      (wpAny_getItem_list_neg (Q:=fun r s'=>r = w∧EP X pins σ Q r s') pl.isList (by omega) (by rw [List.size_toArray] <;> omega) (by omega) (by rw [hj]; simpa using ew) ⟨rfl,fin⟩) hs
theorem ix_tup:IxR X (rIxT X.K):=by
  intro value slice pins s σ H x y v u Q I rx ry h hs
  obtain ⟨p,xs,i,z,rfl,rfl,hq,he,q⟩:=h
  cases rx
  obtain ⟨t,rfl⟩:=ry
  obtain ⟨its,r,pl,hz⟩:=I.tuple hq
  obtain ⟨j,h1,h2,h3,h4,h5⟩:=atI_get he
  obtain ⟨w,ew,rw'⟩:=r.get h2
  have hl:=r.length
  have hn:=line63
  have fin:EP X pins σ Q w s:=⟨z,H,I,rw',q⟩
  exact subscriptTail_builtinR (x:=w) pl.typeIs slot_tuple_getitem.lookup
    (getItem_tuple (j:=j) (Q:=fun r s'=>r = w∧EP X pins σ Q r s') pl (by omega) (by omega) (by rw [List.size_toArray,← hl]; exact h1) (by simpa using ew) ⟨rfl,fin⟩) hs
theorem ix_str:IxR X rIxS:=by
  intro value slice pins s σ H x y v u Q I rx ry h hs
  obtain ⟨z,i,c,rfl,rfl,hz,he,q⟩:=h
  obtain ⟨t,rfl⟩:=rx
  obtain ⟨t',rfl⟩:=ry
  obtain ⟨j,h1,h2,h3,h4,h5⟩:=atI_get he
  have hl:z.cps.toList.length = z.length:=by simp [Str.length]
  rw [hl] at h1 h4 h5
  have hn:=line63
  exact tail_any (typeIs_str s z t) slot_str_getitem.lookup (getItem_str (c:=c) (by
    have e1:decide (i < -(2 ^ 63:Int)) = false:=decide_eq_false (by omega)
    have e2:decide (i ≥ 2 ^ 63) = false:=decide_eq_false (by omega)
    rw [e1,e2,Bool.or_false]) (by rw [h1]; simpa using h2) ⟨.str ⟨#[c]⟩,H,I.tok _,⟨_,rfl⟩,q⟩) hs
theorem slice_bounds (lo hi:Option Int) (n:Nat):(sliceBounds lo hi none n).1 = ((HT.sIx n 0 lo:Nat):Int)∧(sliceBounds lo hi none n).2.1 = ((HT.sIx n n hi:Nat):Int)∧(sliceBounds lo hi none n).2.2 = 1:=by
  refine ⟨?_,?_,rfl⟩
  · cases lo with
    | none=>simp [sliceBounds,HT.sIx]
    | some i =>
      simp only [sliceBounds,HT.sIx,Option.getD_none,show (1:Int) > 0 by decide,if_true]
      by_cases h:i < 0
      · simp only [h,if_true] <;> omega
      · simp only [h,if_false] <;> omega
  · cases hi with
    | none=>simp [sliceBounds,HT.sIx]
    | some i =>
      simp only [sliceBounds,HT.sIx,Option.getD_none,show (1:Int) > 0 by decide,if_true]
      by_cases h:i < 0
      · simp only [h,if_true] <;> omega
      · simp only [h,if_false] <;> omega
theorem slicePick_cut (its:List Value) (lo hi:Option Int):slicePick its.toArray lo hi none = ((its.drop (HT.sIx its.length 0 lo)).take (HT.sIx its.length its.length hi - HT.sIx its.length 0 lo)).toArray:=by
  obtain ⟨h1,h2,h3⟩:=slice_bounds lo hi its.toArray.size
  unfold slicePick
  rw [h1,h2,h3]
  simp only [sliceRange_one,pick_run,List.size_toArray] <;> rfl
def rSlL (K:PySem.W.Frag):V→Option Int→Option Int→Hp→VK→Prop:=fun x lo hi H Q=>∃ a xs,x = .ref a∧SqL K H a xs∧∀ p,H p = none→Q (.ref p) (upd H p (.lst (cutV xs lo hi)))
theorem sl_list:SlR X (rSlL X.K):=by
  intro pins s σ H x v vl vu lo hi sl Q I rx hs pl pu h
  obtain ⟨a,xs,rfl,hx,q⟩:=h
  cases rx
  obtain ⟨its,r,ht,hz⟩:=I.list hx
  have hlen:=r.length
  refine ⟨"list", _,slot_list_getitem.lookup,ht.isList.typeIs,?_⟩
  refine wpAny_getItem_list_slice ht.isList hs pl pu .none (by simp) ?_ (by rw [List.size_toArray] <;> omega)
  rw [slicePick_cut,← hlen]
  refine ⟨.ref s.heap.objs.size,_,I.laid (t':=s.toks) (o:=.lst (cutV xs lo hi)) (fun b ob q=>Heap.get?_push_of_some _ q) (Nat.le_refl _) ?_,rfl,q _ (I.hok.fresh (Nat.le_refl _))⟩
  exact ⟨Nat.le_trans (cutV_length xs lo hi) hz,_,0,(r.drop (HT.sIx xs.length 0 lo)).take (HT.sIx xs.length xs.length hi - HT.sIx xs.length 0 lo),Heap.get?_push_size _ rfl⟩
def flatV:V→Bool
  | .non=>true
  | .bl _=>true
  | .int _=>true
  | .str _=>true
  | _=>false
def eqV:V→V→Bool
  | .non,.non=>true
  | .bl a,.bl b=>a == b
  | .bl a,.int b=>(if a then 1 else 0) == b
  | .int a,.bl b=>a == (if b then 1 else 0)
  | .int a,.int b=>a == b
  | .str a,.str b=>a == b
  | _,_=>false
theorem eqAt_V {A:Around} {s:Shared} {y x:V} {u v:Value} (ry:RelV y u) (rx:RelV x v) (fy:flatV y = true) (fx:flatV x = true):SeqAt.EqAt A s u v (eqV y x):=by
  cases y with
  | non =>
    cases ry
    cases x with
    | non=>cases rx; exact SeqAt.EqAt.same _
    | bl b=>cases rx; exact SeqAt.EqAt.none_bool b
    | int b=>obtain ⟨t,rfl⟩:=rx; exact SeqAt.EqAt.none_int b t
    | str b=>obtain ⟨t,rfl⟩:=rx; exact SeqAt.EqAt.none_str b t
    | _=>exact absurd (show false = true from fx) Bool.false_ne_true
  | bl a =>
    cases ry
    cases x with
    | non=>cases rx; exact SeqAt.EqAt.bool_none a
    | bl b=>cases rx; exact SeqAt.EqAt.bool_bool a b
    | int b=>obtain ⟨t,rfl⟩:=rx; exact SeqAt.EqAt.bool_int a b t
    | str b=>obtain ⟨t,rfl⟩:=rx; exact SeqAt.EqAt.bool_str a b t
    | _=>exact absurd (show false = true from fx) Bool.false_ne_true
  | int a =>
    obtain ⟨t',rfl⟩:=ry
    cases x with
    | non=>cases rx; exact SeqAt.EqAt.int_none a t'
    | bl b=>cases rx; exact SeqAt.EqAt.int_bool a t' b
    | int b=>obtain ⟨t,rfl⟩:=rx; exact SeqAt.EqAt.int_int a t' b t
    | str b=>obtain ⟨t,rfl⟩:=rx; exact SeqAt.EqAt.int_str a t' b t
    | _=>exact absurd (show false = true from fx) Bool.false_ne_true
  | str a =>
    obtain ⟨t',rfl⟩:=ry
    cases x with
    | non=>cases rx; exact SeqAt.EqAt.str_none a t'
    | bl b=>cases rx; exact SeqAt.EqAt.str_bool a t' b
    | int b=>obtain ⟨t,rfl⟩:=rx; exact SeqAt.EqAt.str_int a t' b t
    | str b=>obtain ⟨t,rfl⟩:=rx; exact SeqAt.EqAt.str_str a t' b t
    | _=>exact absurd (show false = true from fx) Bool.false_ne_true
  | _=>exact absurd (show false = true from fy) Bool.false_ne_true
def eqU (x:V) (u:Value):Bool:=match u with
  | .none=>eqV .non x
  | .bool b=>eqV (.bl b) x
  | .int i _=>eqV (.int i) x
  | .str z _=>eqV (.str z) x
  | _=>false
theorem eqU_of {x y:V} {u:Value} (r:RelV y u) (f:flatV y = true):eqU x u = eqV y x:=by
  cases y with
  | non=>cases r; rfl
  | bl b=>cases r; rfl
  | int i=>obtain ⟨t,rfl⟩:=r; rfl
  | str z=>obtain ⟨t,rfl⟩:=r; rfl
  | _=>exact absurd (show false = true from f) Bool.false_ne_true
theorem any_eqU {x:V}:∀ {xs:List V} {us:List Value},Vals xs us→xs.all flatV = true→us.any (eqU x) = xs.any fun y=>eqV y x
  | _,_,.nil,_=>rfl
  | y :: xs,u :: us,.cons r t,f=>by
    rw [List.all_cons,Bool.and_eq_true] at f
    rw [List.any_cons,List.any_cons,eqU_of r f.1,any_eqU t f.2]
theorem mem_eqAt {A:Around} {s:Shared} {x:V} {v:Value} (rx:RelV x v) (fx:flatV x = true):∀ {xs:List V} {us:List Value},Vals xs us→xs.all flatV = true→∀ u∈us,SeqAt.EqAt A s u v (eqU x u)
  | _,_,.nil,_=>fun u hu=>by cases hu
  | y :: xs,u :: us,.cons r t,f=>fun u' hu=>by
    rw [List.all_cons,Bool.and_eq_true] at f
    rcases List.mem_cons.mp hu with rfl | hu
    · rw [eqU_of r f.1]; exact eqAt_V r rx f.1 fx
    · exact mem_eqAt rx fx t f.2 u' hu
def inV (x:V) (xs:List V):Bool:=xs.any fun y=>eqV y x
def rIn (K:PySem.W.Frag) (neg:Bool):R2:=fun x y H Q=>∃ p xs,y = .ref p∧(SqL K H p xs∨SqT K H p xs)∧flatV x = true∧xs.all flatV = true∧Q (.bl (if neg then !inV x xs else inV x xs)) H
theorem op_in_seq:OpR X (compareOp .In) (rIn X.K false):=by
  intro pins s σ H x y v u Q I rx ry h
  obtain ⟨p,xs,rfl,hq,fx,fs,q⟩:=h
  cases ry
  rcases hq with hq | hq
  · obtain ⟨its,r,pl,hz⟩:=I.list hq
    refine SeqAt.in_listAt (eqU x) pl.isList (fun w hw=>mem_eqAt rx fx r fs w (by simpa using hw)) ⟨.bl _,H,I,rfl,?_⟩
    rw [show its.toArray.any (eqU x) = its.any (eqU x) by simp,any_eqU r fs]
    exact q
  · obtain ⟨its,r,pl,hz⟩:=I.tuple hq
    refine SeqAt.in_tupleAt (eqU x) pl (fun w hw=>mem_eqAt rx fx r fs w (by simpa using hw)) ⟨.bl _,H,I,rfl,?_⟩
    rw [show its.toArray.any (eqU x) = its.any (eqU x) by simp,any_eqU r fs]
    exact q
theorem op_notIn_seq:OpR X (compareOp .NotIn) (rIn X.K true):=by
  intro pins s σ H x y v u Q I rx ry h
  obtain ⟨p,xs,rfl,hq,fx,fs,q⟩:=h
  cases ry
  rcases hq with hq | hq
  · obtain ⟨its,r,pl,hz⟩:=I.list hq
    refine SeqAt.notIn_listAt (eqU x) pl.isList (fun w hw=>mem_eqAt rx fx r fs w (by simpa using hw)) ⟨.bl _,H,I,rfl,?_⟩
    rw [show its.toArray.any (eqU x) = its.any (eqU x) by simp,any_eqU r fs]
    exact q
  · obtain ⟨its,r,pl,hz⟩:=I.tuple hq
    refine SeqAt.notIn_tupleAt (eqU x) pl (fun w hw=>mem_eqAt rx fx r fs w (by simpa using hw)) ⟨.bl _,H,I,rfl,?_⟩
    rw [show its.toArray.any (eqU x) = its.any (eqU x) by simp,any_eqU r fs]
    exact q
theorem call_len_seq:CallR X (.builtin "len") (fun xs H Q=>∃ p ys,xs = [.ref p]∧(SqL X.K H p ys∨SqT X.K H p ys)∧Q (.int ys.length) H):=by
  intro pins s σ H xs us Q I r h
  obtain ⟨p,ys,rfl,hq,q⟩:=h
  obtain ⟨u,rfl,rx⟩:=vals1 r
  cases rx
  have hn:=line63
  rcases hq with hq | hq
  · obtain ⟨its,r',pl,hz⟩:=I.list hq
    have hlen:=r'.length
    exact Calls.call_len_list pl.isList (by simp only [List.size_toArray] <;> omega) ⟨.int ys.length,H,I.tok _,⟨s.toks + 1,by rw [List.size_toArray,hlen]⟩,q⟩
  · obtain ⟨its,r',pl,hz⟩:=I.tuple hq
    have hlen:=r'.length
    exact len_tuple pl (by simp only [List.size_toArray] <;> omega) ⟨.int ys.length,H,I.tok _,⟨s.toks + 1,by rw [List.size_toArray,hlen]⟩,q⟩
theorem call_list_of:CallR X (.type "list") (fun xs H Q=>∃ p ys,xs = [.ref p]∧(SqL X.K H p ys∨SqT X.K H p ys)∧∀ l,H l = none→Q (.ref l) (upd H l (.lst ys))):=by
  intro pins s σ H xs us Q I r h
  obtain ⟨p,ys,rfl,hq,q⟩:=h
  obtain ⟨u,rfl,rx⟩:=vals1 r
  cases rx
  have fin:∀ (its:List Value),Vals ys its→ys.length≤sizeLine→∀ (h':Heap) (c':Nat),(∀ b o',s.heap.get? b = some o'→h'.get? b = some o') →
      h'.get? s.heap.objs.size = some { cls:=.type "list", dict:=none,data:=.seq its.toArray c',slots:=#[] }→EP X pins σ Q (.ref s.heap.objs.size) { s with heap:=h' }:=fun its r' hz h' c' kp e =>
    ⟨.ref s.heap.objs.size,_,I.laid (t':=s.toks) kp (Nat.le_refl _) (show ObjOk X.prog X.w _ h' _ (.lst ys) from ⟨hz,its,c',r',e⟩),rfl,q _ (I.hok.fresh (Nat.le_refl _))⟩
  rcases hq with hq | hq
  · obtain ⟨its,r',pl,hz⟩:=I.list hq
    have hlen:=r'.length
    obtain ⟨o,ho,hc,n,hd⟩:=pl.isList
    exact call_list_seq p (.inl rfl) ho hc hd (fun h' c' kp e=>fin its r' hz h' c' kp e) (by simp only [List.size_toArray] <;> omega)
  · obtain ⟨its,r',pl,hz⟩:=I.tuple hq
    have hlen:=r'.length
    obtain ⟨o,ho,hc,n,hd⟩:=pl
    exact call_list_seq p (.inr rfl) ho hc hd (fun h' c' kp e=>fin its r' hz h' c' kp e) (by simp only [List.size_toArray] <;> omega)
def tyV (K:PySem.W.Frag) (T:String) (x:V) (H:Hp):Prop:=match x with
  | .str _=>T = "str"
  | .int _=>T = "int"
  | .ref p=>(T = "list" ∧ ∃ xs,SqL K H p xs)∨(T = "tuple" ∧ ∃ o,K.lookup p = some o∧o.cls = .type "tuple" ∧ o.dict = none) ∨
      (T = "dict" ∧ ((∃ kvs,H p = some (.dK kvs))∨∃ kvs,H p = some (.dT kvs)))∨(T = "set" ∧ ∃ S n,H p = some (.set S n))
  | _=>False
theorem tyV_is {pins:List (Addr × Obj)} {σ:St} {H:Hp} {s:Shared} {T:String} {x:V} {v:Value} (I:Inv X pins σ H s) (r:RelV x v) (ty:tyV X.K T x H) :
    s.TypeIs v T∧∀ a,v = .ref a→∃ ob,s.heap.get? a = some ob∧ob.dict = none:=by
  cases x with
  | str z =>
    obtain ⟨t,rfl⟩:=r
    cases (show T = "str" from ty)
    exact ⟨typeIs_str s z t,fun _ e=>nomatch e⟩
  | int i =>
    obtain ⟨t,rfl⟩:=r
    cases (show T = "int" from ty)
    exact ⟨typeIs_int s i t,fun _ e=>nomatch e⟩
  | ref p =>
    cases r
    rcases ty with ⟨rfl,xs,hq⟩ | ⟨rfl,o,hk,hc,hd⟩ | ⟨rfl,hk⟩ | ⟨rfl,S,n,hk⟩
    · obtain ⟨its,_,pl,_⟩:=I.list hq
      refine ⟨pl.isList.typeIs,fun a e=>?_⟩
      cases e
      obtain ⟨o,n,e,c,hd,_⟩:=pl
      exact ⟨o,e,hd⟩
    · refine ⟨⟨o,I.kIn p o hk,hc⟩,fun a e=>?_⟩
      cases e
      exact ⟨o,I.kIn _ o hk,hd⟩
    · have z:∃ o,s.heap.get? p = some o∧o.ExactDict:=by
        rcases hk with ⟨kvs,hk⟩ | ⟨kvs,hk⟩
        · obtain ⟨_,_,_,_,o,_,_,e,ex,_⟩:=I.hok p _ hk
          exact ⟨o,e,ex⟩
        · obtain ⟨_,_,_,_,o,_,_,e,ex,_⟩:=I.hok p _ hk
          exact ⟨o,e,ex⟩
      obtain ⟨o,e,ex⟩:=z
      refine ⟨⟨o,e,ex.1⟩,fun a e2=>?_⟩
      cases e2
      exact ⟨o,e,ex.2.1⟩
    · obtain ⟨o,_,_,_,e,ex,_⟩:=I.hok p _ hk
      refine ⟨⟨o,e,ex.1⟩,fun a e2=>?_⟩
      cases e2
      exact ⟨o,e,ex.2.1⟩
  | _=>exact False.elim ty
def tBM0 (K:PySem.W.Frag) (T:String) (r:V→List V→Hp→VK→Prop) (to:TE):TE:=fun σ H Q=>to σ H fun x H1=>tyV K T x H1∧r x [] H1 Q
def tBM (K:PySem.W.Frag) (T:String) (r:V→List V→Hp→VK→Prop) (to:TE) (t:TA):TE:=fun σ H Q=>to σ H fun x H1=>tyV K T x H1∧t σ H1 fun xs H2=>r x xs H2 Q
variable {o e:Expr} {es:List Expr} {to:TE} {t:TA} {name:Str} {apos cpos:Pos} {T id:String} {r:V→List V→Hp→VK→Prop}
theorem pe_bm0 (pa:PlainAttrs T) (slot:Slot T name id) (hty:typeOf (.builtin id) = pure (.type "method_descriptor")) (hm:MtR X id r) (ho:PE X o to)
    (hbase:attributeBase o name X.env (eval o X.env) = eval o X.env:=by rfl) (hline:(apos.endLine == cpos.line) = true:=by rfl):PE X (.Call (.Attribute o name apos) [] [] cpos) (tBM0 X.K T r to):=by
  intro pins s σ H Q I h
  refine wpAny_Call_method0_late hbase hline (thn (ho pins s σ H _ I h) fun v s1 ⟨x,H1,I1,r1,ty,q1⟩=>?_)
  obtain ⟨h1,h2⟩:=tyV_is I1 r1 ty
  exact ⟨T,id,pa,slot,hty,h1,h2,Calls.callWith_builtin rfl (PySem.evalArgs_none (hm pins s1 σ H1 x [] v [] Q I1 r1 .nil q1))⟩
theorem pe_bm (pa:PlainAttrs T) (slot:Slot T name id) (hty:typeOf (.builtin id) = pure (.type "method_descriptor")) (hm:MtR X id r) (ho:PE X o to) (ha:PA X (e :: es) t)
    (hbase:attributeBase o name X.env (eval o X.env) = eval o X.env:=by rfl)
    (hfew:((backTo cpos (starEach (e :: es) X.env)).all (fun x=>!x.1) && (backToKw cpos (keywordEach [] X.env)).all (fun x=>x.1.isSome)
      && decide ((e :: es).length + ([]:List Keyword).length + (if ([]:List Keyword).isEmpty then 0 else 1) < 30)) = true:=by rfl)
    (hline:(apos.endLine == cpos.line) = true:=by rfl) (hs:starEach (e :: es) X.env = (false,eval e X.env) :: starEach es X.env:=by rfl) (hplain:(backTo cpos (starEach es X.env)).any (·.1) = false:=by rfl) :
    PE X (.Call (.Attribute o name apos) (e :: es) [] cpos) (tBM X.K T r to t):=by
  intro pins s σ H Q I h
  refine wpAny_Call_method_late hbase hfew hline rfl (thn (ho pins s σ H _ I h) fun v s1 ⟨x,H1,I1,r1,ty,q1⟩=>?_)
  obtain ⟨h1,h2⟩:=tyV_is I1 r1 ty
  refine ⟨T,id,pa,slot,hty,h1,h2,?_⟩
  have hA:=ha cpos pins s1 σ H1 _ I1 q1
  rw [hs] at hA ⊢
  refine Calls.callWith_builtin (by show (false || (backTo cpos (starEach es X.env)).any (·.1)) = false; rw [hplain] <;> rfl) (Calls.evalArgs_plain ?_)
  exact thn hA fun us s2 ⟨vs,H2,I2,r2,q2⟩=>hm pins s2 σ H2 x vs v us Q I2 r1 r2 q2
/- xs.append(e),list.index on a module's tuple .. are MtR facts of 06m -/
end
end L2
namespace L2
open PySem PySem.Spec PyProof.Rows
def MtM (X:Cx) (id:String) (r:V→List V→Hp→VK→Prop):Prop :=
  ∀ (pins:List (Addr × Obj)) (s:Shared) (σ:St) (H:Hp) (x:V) (xs:List V) (v:Value) (us:List Value) (Q:VK),Inv X pins σ H s→RelV x v→Vals xs us→r x xs H Q →
    wpAny (model X.prog X.w) X.A (call (.builtin id) (v :: us)) (EP X pins σ Q) X.xe s
theorem Vals.one:∀ {x:V} {us:List Value},Vals [x] us→∃ u,us = [u]∧RelV x u
  | _,_,.cons r .nil=>⟨_,rfl,r⟩
theorem Vals.two:∀ {x y:V} {us:List Value},Vals [x,y] us→∃ u v,us = [u,v]∧RelV x u∧RelV y v
  | _,_,_,.cons r (.cons q .nil)=>⟨_,_,rfl,r,q⟩
theorem Vals.zero:∀ {us:List Value},Vals [] us→us = []
  | _,.nil=>rfl
theorem Vals.dropLast {xs:List V} {us:List Value} (h:Vals xs us):Vals xs.dropLast us.dropLast:=by
  induction h with
  | nil=>exact .nil
  | cons r t ih =>
    cases t with
    | nil=>exact .nil
    | cons q t'=>exact .cons r ih
theorem erase_last {α:Type} (l:List α):l.eraseIdx (l.length - 1) = l.dropLast:=by
  induction l with
  | nil=>rfl
  | cons a r ih =>
    cases r with
    | nil=>rfl
    | cons b r =>
      have e:(a :: b :: r).length - 1 = ((b :: r).length - 1) + 1:=by
        have h1:(a :: b :: r).length = r.length + 2:=rfl
        have h2:(b :: r).length = r.length + 1:=rfl
        omega
      rw [e,List.eraseIdx_cons_succ,ih]
      all_goals rfl
section
variable {X:Cx} {pins:List (Addr × Obj)} {σ:St} {H:Hp} {s:Shared} {l b:Addr} {xs ys zs:List V}
theorem Inv.lset {its its':List Value} {n:Nat} {f:Array Value→Array Value} {t':Nat} (I:Inv X pins σ H s) (hH:H l = some (.lst xs))
    (e:s.heap.get? l = some { cls:=.type "list", data:=.seq its.toArray n }) (hf:f its.toArray = its'.toArray) (hv:Vals ys its') (hz:ys.length≤sizeLine) :
    Inv X pins σ (upd H l (.lst ys)) { s with heap:=s.heap.update l (Obj.mapSeq f),toks:=t' }:=by
  have q:=PySem.IsL.update e f
  rw [hf] at q
  refine I.write (x:=l) (e:=l) (by rw [hH]; exact trivial) (.inl rfl) (fun b' u hb hu=>(Heap.get?_update_other s.heap (Obj.mapSeq f) (Ne.symm hb)).trans hu) ⟨_,q⟩ ?_
  exact ⟨hz,its',_,hv,q⟩
theorem Inv.lstM (I:Inv X pins σ H s) (hH:H l = some (.lst xs)):xs.length≤sizeLine∧∃ (its:List Value) (n:Nat),Vals xs its∧xs.length = its.length∧s.heap.get? l = some { cls:=.type "list", data:=.seq its.toArray n }:=by
  obtain ⟨z,its,n,r,e⟩:=I.hok l _ hH
  exact ⟨z,its,n,r,r.length,e⟩
theorem notLongL {n:Nat} (h:n≤sizeLine):Builtin.List.listTooLong n = false:=by
  unfold Builtin.List.listTooLong
  exact decide_eq_false (by omega)
end
section
variable {X:Cx}
def rAppend:V→List V→Hp→VK→Prop:=fun x vs H Q=>∃ l xs y,x = .ref l∧vs = [y]∧H l = some (.lst xs)∧xs.length < sizeLine∧Q .non (upd H l (.lst (xs ++ [y])))
theorem mt_append:MtM X "list.append" rAppend:=by
  intro pins s σ H x vs v us Q I rx rv h
  obtain ⟨l,xs,y,rfl,rfl,hH,hz,q⟩:=h
  cases rx
  obtain ⟨u,rfl,ru⟩:=rv.one
  obtain ⟨z,its,n,r,hl,e⟩:=I.lstM hH
  refine call_meets F.slot_list_append ⟨_,e,rfl⟩ F.entry_list_append (F.args_list_append_2 _ _) (PySem.list_append l its.toArray n u (by rw [List.size_toArray]; omega)) ⟨e,?_⟩
  refine ⟨.non,_,I.lset (its':=its ++ [u]) hH e (by simp) (r.append (.cons ru .nil)) ?_,rfl,q⟩
  rw [List.length_append,List.length_singleton]
  omega
def rExtend:V→List V→Hp→VK→Prop:=fun x vs H Q=>∃ l b xs zs,x = .ref l∧vs = [.ref b]∧H l = some (.lst xs)∧H b = some (.lst zs)∧xs.length + zs.length≤sizeLine∧Q .non (upd H l (.lst (xs ++ zs)))
theorem mt_extend:MtM X "list.extend" rExtend:=by
  intro pins s σ H x vs v us Q I rx rv h
  obtain ⟨l,b,xs,zs,rfl,rfl,hH,hB,hz,q⟩:=h
  cases rx
  obtain ⟨u,rfl,ru⟩:=rv.one
  cases ru
  obtain ⟨z,its,n,r,hl,e⟩:=I.lstM hH
  obtain ⟨z2,its2,n2,r2,hl2,e2⟩:=I.lstM hB
  have hsz:its.toArray.size + its2.toArray.size≤sizeLine:=by rw [List.size_toArray,List.size_toArray]; omega
  have hlong:¬ (!its.toArray.isEmpty && Builtin.List.listTooLong (its.toArray.size + its2.toArray.size)) = true:=by
    rw [notLongL hsz,Bool.and_false]
    exact Bool.false_ne_true
  refine call_meets F.slot_list_extend ⟨_,e,rfl⟩ F.entry_list_extend (F.args_list_extend_2 _ _)
    (AutoSeq1.list_extend_list_list_0 l its.toArray n b its2.toArray n2 hlong (by rw [List.size_toArray]; omega) (by omega)) ⟨e,e2,?_⟩
  refine ⟨.non,_,I.lset (its':=its ++ its2) hH e (by simp) (r.append r2) ?_,rfl,q⟩
  rw [List.length_append]
  omega
def rPop:V→List V→Hp→VK→Prop:=fun x vs H Q=>∃ l xs y,x = .ref l∧vs = []∧H l = some (.lst xs)∧xs[xs.length - 1]? = some y∧Q y (upd H l (.lst xs.dropLast))
theorem mt_pop:MtM X "list.pop" rPop:=by
  intro pins s σ H x vs v us Q I rx rv h
  obtain ⟨l,xs,y,rfl,rfl,hH,hy,q⟩:=h
  cases rx
  have hus:=rv.zero
  subst hus
  obtain ⟨z,its,n,r,hl,e⟩:=I.lstM hH
  obtain ⟨u,hu,ru⟩:=r.get hy
  have hy':its.toArray[its.toArray.size - 1]? = some u:=by
    show its.toArray[its.length - 1]? = some u
    rw [← Array.getElem?_toList,← hl]
    exact hu
  refine call_meets F.slot_list_pop ⟨_,e,rfl⟩ F.entry_list_pop (F.args_list_pop_1 _) (MeetsSeq.list_pop_last l its.toArray n u hy' (by rw [List.size_toArray]; omega)) ⟨e,?_⟩
  refine ⟨y,_,I.lset (its':=its.dropLast) hH e ?_ r.dropLast ?_,ru,q⟩
  · show its.toArray.eraseIdxIfInBounds (its.toArray.size - 1) = its.dropLast.toArray
    rw [List.size_toArray,List.eraseIdxIfInBounds_toArray,erase_last]
  · rw [List.length_dropLast]
    omega
end
end L2
namespace Att
open PySem PySem.W PySem.Calls PyProof.Rows
theorem ints_of_wellAll {P:Params} {h:Heap}:∀ (ns:List Int) (vs:List Value),WellAll P h vs (ns.map WData.int)→IntsAre vs ns:=by
  intro ns
  induction ns with
  | nil =>
    intro vs w
    rw [List.map_nil] at w
    cases w
    exact .nil
  | cons n ns ih =>
    intro vs w
    rw [List.map_cons] at w
    cases w with
    | cons a b =>
      cases a
      exact .cons _ _ (ih _ b)
theorem script_of {l:OpenLaw} {n:Nat} (hn:l.most = some n) {P:Params} {h:Heap} {args:List WData} {vals:List Value}
    (hpre:l.row.toRowW.claim.pre args = true) (hwl:WellAll P h vals args) :
    ∃ a vs ns,vals = [Value.ref a]∧args = [WData.list (ns.map WData.int)]∧h.get? a = some { cls:=.type "list", data:=.seq vs.toArray }∧IntsAre vs ns∧ns.length≤n:=by
  have hsh:WShape.hasAll [] args [.list .int] = true:=(pre_splitW hpre).1
  have hc:l.pre.holds [] { args:=args } = true:=(pre_splitW hpre).2
  obtain ⟨d,r,rfl,h1,h2⟩:=hasAllW_cons hsh
  obtain rfl:=hasAllW_nil h2
  obtain ⟨xs,rfl,h3⟩:=hasW_list h1
  obtain ⟨ns,rfl⟩:=items_int h3
  have hlen:ns.length≤n:=by
    unfold OpenLaw.pre at hc
    have h4:(WTm.not (.lt (.lit (.int (n:Int))) (.len (.arg 0)))).holds [] { args:=[.list (ns.map .int)] } = true:=by
      have h4:=(holds_andW hc).1
      rw [hn] at h4
      exact h4
    have h5:=condW_of h4 (w_not (w_lt w_lit (w_len_list (w_arg rfl))))
    rw [List.length_map] at h5
    refine Nat.le_of_not_lt fun q=>?_
    have q':(n:Int) < ((ns.length:Nat):Int):=by omega
    first
      | (rw [decide_eq_true q'] at h5; exact absurd h5 (by decide))
      | (simp at h5; omega)
  cases hwl with
  | cons w1 w2 =>
    cases w2
    cases w1 with
    | list ho hall=>exact ⟨_,_,ns,rfl,rfl,ho,ints_of_wellAll ns _ hall,hlen⟩
theorem post_true (l:OpenLaw) (args:List WData):l.row.toRowW.claim.post args (.bool true) args = true :=
  postW_of (r:=l.row.toRowW) (X:=(true == true))
    (show WShape.has [] (.bool true) .bool = true by first | rfl | decide | simp [WShape.has,WShape.arms,WShape.armsAll])
    (show (WTm.eq .res (.lit (.bool true))).value [] { args:=args,res:=some (.bool true),after:=args } = some (.bool (true == true)) from w_eq_bool (w_res rfl) w_lit) rfl
theorem attach_call {l:OpenLaw} {n:Nat} {q:Program} {loose:List Str} {XP:(Str→Option Value)→Heap→Prop} {YP:World→Heap→Prop} {d:DefRec}
    (hn:l.most = some n) (hdf:d.params.defaults = [])
    (call:∀ (w:World) (s₀ s₁:Shared) (mg mb:Str→Option Value) (fa:Addr) (o:Obj) (pm cd doc:Value) (a:Addr) (vs:List Value) (ns:List Int),
      Ground q loose [] XP w s₀ mg mb s₁.heap→YP w s₁.heap →
      s₁.heap.get? fa = some o→o.data = .func (docDef d.name d.params d.body d.scope pm cd doc)→s₁.heap.CodeRec cd d.name→mg d.name = some (.ref fa) →
      s₁.heap.get? a = some { cls:=.type "list", data:=.seq vs.toArray }→IntsAre vs ns→ns.length≤n→s₁.gens = #[] →
      codeAny (model l.prog w) callerA (.call (.ref fa) ⟨[.ref a],[]⟩) (fun r s'=>r = .ok (.ret (.bool true))∧OldK s₁.heap s'.heap∧s'.os = s₁.os∧AllBare s'.gens) s₁) :
    WalkO q loose XP YP l.row.toRowW d [] (fun f vs=>PySem.call f vs):=by
  intro w s₀ s₁ mg mb G Y fa o pm cd doc dV kV ho hd hcd hD hmg hg args vals as hpre hlay hrd hwl hlo
  obtain rfl:dV = .none:=Dflts.none hD hdf
  obtain rfl:kV = .none:=Dflts.noKw hD
  obtain ⟨a,vs,ns,rfl,rfl,hobj,hints,hlen⟩:=script_of hn hpre hwl
  refine enter_call (codeAny_mono (call w s₀ s₁ mg mb fa o pm cd doc a vs ns G Y ho (fd_plain hd) hcd hmg hobj hints hlen hg) fun r s' hq=>?_)
  obtain ⟨rfl,h2,h3,h4⟩:=hq
  exact ⟨.inl ⟨.bool true,.bool true,[],rfl,fun _=>rfl,.bool true,post_true l _,fun _=>⟨List.Pairwise.nil,fun _ hm=>(nomatch hm)⟩⟩,h2,h3,h4⟩
end Att
namespace L2
open PySem PySem.Spec PyProof.Rows
theorem vals_ints:∀ {vs:List Value} {ns:List Int},IntsAre vs ns→Vals (ns.map V.int) vs
  | _,_,.nil=>.nil
  | _,_,.cons n t h=>.cons ⟨t,rfl⟩ (vals_ints h)
end L2
namespace L2
open PySem PySem.Spec PyProof.Rows
abbrev KOf {K:PySem.W.Frag} {h:Heap} (_:K.In h):PySem.W.Frag:=K
end L2
/- THE LAST THEOREM (shape; LID,My.* are yours):
   My.Adr: a structure of the addresses that your layer names (classes,functions); My.Txt K t: a structure (Prop) of the equations over K;
   My.txt_mk:{K} {implicit addresses ..} (e1:nsIn K mainGlobals "law" = some (some (.ref f))) (e2:K.lookup f = some ⟨oc,od,.func (fnOf "law" "law" params body scope dV kV doc pm an cdv ct),sl⟩) (e3:codeIn K cdv "law" = true) ..:∃ t,My.Txt K t
set_option maxRecDepth 100000 in
set_option maxHeartbeats 0 in
theorem PySem.Challenge.cw_LID_holds:PySem.Challenge.rw_LID.Holds:=by
  w_on; o_law; k_head; (case hw=>w_witness2)
  k_fill
  refine L2.walk_of (l:=PySem.Challenge.rw_LID) (n:=63) (k:=40) (x := "script") (CX:=fun w=>..) (sp:=fun _=>My.sp_law) rfl (by decide) rfl ⟨rfl,by decide,by decide⟩ (fun w h Y=>PySem.W.kIn_of Y) ?F ?S ?C
  case F =>
    intro w mg fa h KX G hmg
    have T:∃ t,My.Txt (L2.KOf KX) t:=by
      dsimp only [L2.KOf]                          -- K must stand as «<heap const> w.params» for k_is
      refine' My.txt_mk ?e1 ?e2 ?e3 ..
      (case e1=>PySem.W.k_is)                    -- in the order: a name -> its address -> its object -> its parts
      (case e2=>PySem.W.k_is)
      ..
    obtain ⟨t,T⟩:=T
    have e0:=hmg.symm.trans (PySem.W.mg_of KX G T.law)
    cases e0                                       -- fa is the law's own address
    exact ⟨_,fun s u=>.of_eq rfl,fun base kb nb=>My.law_fn T kb nb⟩     -- if «.of_eq rfl» comes too early: refine' ⟨_,?b,fun base kb nb=>My.law_fn T kb nb⟩; exact fun s u=>.of_eq rfl
  case S=>exact fun w H a ns hl hO hS=>..
  case C=>exact ..
(the tactic k_is has no namespace: write k_is) -/
namespace L2
open PySem PySem.Spec PyProof.Rows
def inClass (s:Stmt) (j:Nat):Stmt:=match s with
  | .ClassDef _ _ _ body _ _ _ _ _ _ _=>body.getD j (.Pass ⟨0,0,0,0⟩)
  | _=>.Pass ⟨0,0,0,0⟩
def defArgs (s:Stmt):Arguments:=match s with
  | .FunctionDef _ a _ _ _ _ _ _ _ _=>a
  | _=>{ posonlyargs:=[],args:=[],vararg:=none,kwonlyargs:=[],kw_defaults:=[],kwarg:=none,defaults:=[] }
def defBody (s:Stmt):List Stmt:=match s with
  | .FunctionDef _ _ b _ _ _ _ _ _ _=>b
  | _=>[]
def defScope (s:Stmt):Scope:=match s with
  | .FunctionDef _ _ _ _ _ _ sc _ _ _=>sc
  | _=>{ kind:=.function,names:=[],isGenerator:=false,isCoroutine:=false }
abbrev CX0:CXT:=fun _ _ _ _ _ _=>False
abbrev E0:XK:=fun _ _ _=>False
theorem pass0 {X:Cx}:Passes CX0 X E0:=fun _ _ _ _ _ _ _ h=>h.elim
structure Fun (K:PySem.W.Frag) (x qual:Str) (st:Stmt) (f:Addr) (fd:FuncData):Prop where
  ex:∃ (oc:Value) (od:Option Addr) (kV doc pm:Value) (an:Option Addr) (cdv ct:Value) (osl:Array (Option Value)),
    fd = PySem.W.fnOf x qual (defArgs st) (defBody st) (defScope st) .none kV doc pm an cdv ct∧K.lookup f = some ⟨oc,od,.func fd,osl⟩∧PySem.W.codeIn K cdv qual = true
  kp:PySem.W.keepIn K (.ref f) = true
section
variable {P:Program} {w:World} {K:PySem.W.Frag} {mg:Str→Option Value} {base:Heap}
theorem Fun.ok {x qual:Str} {st:Stmt} {f:Addr} {fd:FuncData} {N ps:List Str} {k:Nat} {sp:Sp} (F:Fun K x qual st f fd) (S:FnScope N ps (defScope st)) (len:∀ vs H Q E,sp vs H Q E→vs.length = ps.length)
    (hbody:∀ (cdv:Value) (A:Around) (outer:List Env) (s:Shared) (H:Hp) (vs:List V) (Q:VK) (E:XK),Room k (A.deeper (envOfC qual (defScope st) s.heap.objs.size f cdv))→sp vs H Q E →
      ∃ t,PSs (cxOf CX0 P w K mg base N qual (defScope st) f cdv A outer s H E).nox (defBody st) t∧t { nx:=fun _ H'=>Q .non H',rt:=Q } (start N vs) H):FnOk P w K mg base CX0 (k + 1) f fd ps sp:=by
  obtain ⟨oc,od,kV,doc,pm,an,cdv,ct,osl,rfl,lk,hcd⟩:=F.ex
  refine fn_of lk hcd S len fun A outer s H vs Q E hr hsp=>?_
  obtain ⟨t,h,q⟩:=hbody cdv A outer s H vs Q E hr hsp
  exact ⟨t,h.nox,q⟩
theorem Fun.binds {x qual:Str} {st:Stmt} {f:Addr} {fd:FuncData} {ps:List Str} (F:Fun K x qual st f fd)
    (h:∀ (kV doc pm:Value) (an:Option Addr) (cdv ct:Value) (us:List Value),us.length = ps.length→bindArgs (PySem.W.fnOf x qual (defArgs st) (defBody st) (defScope st) .none kV doc pm an cdv ct) ⟨us,[]⟩ = pure (ps.zip us)):Binds K fd ps []:=by
  obtain ⟨oc,od,kV,doc,pm,an,cdv,ct,osl,rfl,lk,hcd⟩:=F.ex
  exact .all (h kV doc pm an cdv ct)
theorem fun_mk {x qual:Str} {st:Stmt} {f:Addr} {oc:Value} {od an:Option Addr} {osl:Array (Option Value)} {kV doc pm cdv ct:Value} (l:K.lookup f = some ⟨oc,od,.func (PySem.W.fnOf x qual (defArgs st) (defBody st) (defScope st) .none kV doc pm an cdv ct),osl⟩)
    (c:PySem.W.codeIn K cdv qual = true) (k:PySem.W.keepIn K (.ref f) = true):Fun K x qual st f (PySem.W.fnOf x qual (defArgs st) (defBody st) (defScope st) .none kV doc pm an cdv ct):=⟨⟨oc,od,kV,doc,pm,an,cdv,ct,osl,rfl,l,c⟩,k⟩
end
theorem hu_of {A:Around} {k:Nat} (hr:Room k A):A.units + 1 < cLine:=Nat.lt_of_le_of_lt (Nat.add_le_add_left (by decide:1≤64) _) hr.units
theorem small1000 {n:Nat} (h:n≤1000):n < sizeLine:=Nat.lt_of_le_of_lt h (by decide)
section
variable {X:Cx}
theorem pv (i:Nat) {x:Str} {pos:Pos} (hN:X.N[i]? = some x:=by rfl) (hv:Vis X.env.scope x:=by first | exact Or.inl rfl | exact Or.inr (Or.inl rfl) | exact Or.inr (Or.inr rfl)) (hd:(x == ("__debug__" : Str)) = false:=by decide)
    (hcd:(x == ("__classdict__" : Str)) = false:=by decide):PE X (.Name x pos) (tVar i):=pe_var hN hv hd hcd
end
theorem iteF {A B:Prop} (h:B):if false = true then A else B:=by
  rw [if_neg Bool.false_ne_true]
  exact h
theorem iteT {A B:Prop} (h:A):if true = true then A else B:=by
  rw [if_pos rfl]
  exact h
theorem ite2 {c A B:Prop} [Decidable c] (h1:c→A) (h2:¬ c→B):if c then A else B:=by
  by_cases h:c
  · rw [if_pos h]
    exact h1 h
  · rw [if_neg h]
    exact h2 h
def Same (H H':Hp):Prop:=∀ b o,H b = some o→H' b = some o
theorem Same.refl (H:Hp):Same H H:=fun _ _ h=>h
theorem Same.trans {H H1 H2:Hp} (a:Same H H1) (b:Same H1 H2):Same H H2:=fun c o h=>b c o (a c o h)
theorem Same.free {H H':Hp} (e:Same H H') {l:Addr} (h:H' l = Option.none):H l = Option.none:=by
  cases q:H l with
  | none=>rfl
  | some o =>
    rw [e l o q] at h
    cases h
theorem Same.seq {K:PySem.W.Frag} {H H':Hp} {a:Addr} {xs:List V} (e:Same H H') (h:SqL K H a xs):SqL K H' a xs:=by
  rcases h with (h | ⟨o,h⟩) | h
  · exact .inl (.inl (e _ _ h))
  · exact .inl (.inr ⟨o,e _ _ h⟩)
  · exact .inr h
end L2
set_option maxHeartbeats 8000000
namespace L2
open PySem PySem.Spec PyProof.Rows
section
variable {P:Program} {w:World} {K:PySem.W.Frag} {mg:Str→Option Value} {base:Heap} {A:Around} {outer:List Env} {s:Shared} {H:Hp}
theorem lam_run {k:Nat} {f c:Addr} {qual:Str} {params:Arguments} {body:Expr} {scope:Scope} {pm ctv:Value} {N ps:List Str} {us:List Value} {vs:List V} {Q:VK} {args:Args} {t:TE}
    (ho:s.heap.get? f = some (PySem.W.kla_obj "<lambda>" qual params body scope [] pm c ctv)) (hcd:s.heap.CodeRec (.ref c) qual) (S:FnScope N ps scope) (hr:Room (k + 1) A) (e0:Env0 P w K mg base A outer s H)
    (hb:bindArgs (PySem.W.kla_fn "<lambda>" qual params body scope [] pm (.ref c) ctv) args = pure (ps.zip us)) (hl:vs.length = ps.length) (r:Vals vs us)
    (ht:PE (cxOf CX0 P w K mg base N qual scope f (.ref c) A outer s H E0) body t) (hq:t (start N vs) H Q) :
    codeAny (model P w) A (.call (.ref f) args) (CR CX0 outer P w H s Q E0) s:=by
  have lim:s.heap.NoLimit:=e0.mod.nolimit.keeps fun b o e=>(e0.bs b o e).1
  have hkind:∀ y∈ps.zip us,scope.names.lookup y.1 = some .local∨(scope.names.lookup y.1 = some .cell∧((cellsFrom (s.heap.objs.size + 1) scope.names []).lookup y.1).isSome = true):=fun ⟨n,v⟩ hy=>by
    rcases S.par n (List.of_mem_zip hy).1 with q | q
    · exact .inl q
    · exact .inr ⟨q,PySem.W.cellsFrom_some _ _ _ (.inl q)⟩
  refine PySem.W.kla_callFunE hr.depth ho rfl S.co S.gen rfl hcd ?_
  rw [hb]
  refine wpAny_pure ?_
  refine wpAny_newFunctionEnv_cells S.kind hkind fun env he s1 x=>?_
  subst he
  refine ⟨lim.keeps x.toInCall.keep,PySem.W.kla_codeExpr ?_⟩
  have I:Inv (cxOf CX0 P w K mg base N qual scope f (.ref c) A outer s H E0) [] (start N vs) H s1:=inv_start S hr.hd e0 hl r x
  exact wpAny_mono (ht [] s1 (start N vs) H _ I hq) (fun u s' ⟨v,H',J,rv,q⟩=>⟨v,H',J.os,J.bare,J.base,J.hok,rv,q⟩) fun e s' hs=>hs
end
section
variable {X:Cx} {pins:List (Addr × Obj)} {σ:St} {H:Hp}
def KeyOk (X:Cx) (pins:List (Addr × Obj)) (σ:St) (H:Hp) (f:Addr) (fo:Obj) (ts:List Addr) (z:Nat→Int):Prop :=
  ∀ (s:Shared) (pl:List (Addr × Obj)) (i:Nat) (t:Addr),Inv X (pins ++ pl) σ H s→s.heap.get? f = some fo→ts[i]? = some t →
    wpAny (model X.prog X.w) X.A.in1 (call (.ref f) [.ref t]) (fun u s'=>(∃ tk,u = .int (z i) tk)∧Inv X (pins ++ pl) σ H s') (fun _ _=>False) s
abbrev lsO (a:Array Value) (c:Nat):Obj:={ cls:=.type "list", dict:=none,data:=.seq a c,slots:=#[] }
variable {p it S f:Addr} {fo:Obj} {ts:List Addr} {z:Nat→Int} {R:Result→Shared→Prop}
theorem key_turn {s:Shared} {i:Nat} {t:Addr} (hk:KeyOk X pins σ H f fo ts z) (foc:∀ v,fo.data≠.cell v) (hf:∀ b∈[it,S,f],FpOk X pins H b) (I:Inv X pins σ H s) (hfo:s.heap.get? f = some fo) {a:Array Value} {c:Nat} (hS:s.heap.get? S = some (lsO a c)) {j:Nat} (hit:s.heap.IsListIter it p j)
    (ht:ts[i]? = some t) {Q:Value→Shared→Prop} {E:Value→Shared→Prop} (q:∀ tk s',Inv X pins σ H s'→s'.heap.get? f = some fo→s'.heap.get? S = some (lsO a c)→s'.heap.IsListIter it p j→Q (.int (z i) tk) s') :
    wpAny (model X.prog X.w) X.A.in1 (call (.ref f) [.ref t]) Q E s:=by
  obtain ⟨oI,hoI,hoc,hod⟩:=id hit
  have objs:∀ b∈[it,S,f],∃ o,s.heap.get? b = some o∧∀ v,o.data≠.cell v:=fun b hb=>by
    simp only [List.mem_cons,List.not_mem_nil,or_false] at hb
    rcases hb with rfl | rfl | rfl
    · exact ⟨oI,hoI,fun v e=>by rw [hod] at e; cases e⟩
    · exact ⟨_,hS,fun v e=>by cases e⟩
    · exact ⟨fo,hfo,foc⟩
  have I':=I.pinned hf objs
  refine wpAny_mono (hk s _ i t I' hfo ht) (fun u s' ⟨⟨tk,e⟩,J⟩=>?_) fun _ _ h=>h.elim
  subst e
  have get:∀ b o,b∈[it,S,f]→s.heap.get? b = some o→s'.heap.get? b = some o:=fun b o hb e=>(J.pin (b,o) (List.mem_append_right _ (List.mem_append_right _ (mem_pinsAt hb e)))).1
  exact q tk s' J.unpinned (get _ _ (by simp) hfo) (get _ _ (by simp) hS) ⟨oI,get _ _ (by simp) hoI,hoc,hod⟩
theorem turned_of {s:Shared} {h':Heap} {b:Addr} (I:Inv X pins σ H s) (hf:FpOk X pins H b) (k:∀ a o,a≠b→s.heap.get? a = some o→h'.get? a = some o):Inv X pins σ H { s with heap:=h' } :=
  I.turned (t':=s.toks) k hf.1 hf.2.1 hf.2.2.2.1 hf.2.2.2.2.1 hf.2.2.2.2.2
theorem minKey_loop (hc:X.calm = true) (hp:SqL X.K H p (ts.map V.ref)) (hk:KeyOk X pins σ H f fo ts z) (foc:∀ v,fo.data≠.cell v) (hf:∀ b∈[it,S,f],FpOk X pins H b) (hSI:S≠it) (hfI:f≠it) (hfS:f≠S)
    (hR:∀ i t s',ts[i]? = some t→(∀ j,j < ts.length→z i≤z j∧(j < i→z i < z j))→Inv X pins σ H s'→R (.ok (.ret (.ref t))) s') :
    ∀ (r j i:Nat) (s:Shared) (tb:Tok) (c:Nat) (t:Addr),ts.length - (j + 1) = r→j + 1≤ts.length→Inv X pins σ H s→s.heap.get? f = some fo→s.heap.get? S = some (lsO #[.ref t,.int (z i) tb] c)→s.heap.IsListIter it p (j + 1)→ts[i]? = some t→i≤j →
      (∀ j',j'≤j→z i≤z j'∧(j' < i→z i < z j'))→codeAny (model X.prog X.w) X.A (.builtin "min.loop" ⟨[.ref it,.ref f,.ref S],[]⟩) R s:=by
  have hname:(toString "min" ++ toString ".loop" : String) = "min.loop" := by decide
  have fI:=hf it (by simp)
  have fS:=hf S (by simp)
  intro r
  induction r with
  | zero =>
    intro j i s tb c t hr hj I hfo hS hit hti hij best
    obtain ⟨its,rv,pl,hz⟩:=I.list hp
    have ln:=rv.length
    rw [List.length_map] at ln
    refine codeAny_builtin PySem.F.entry_min_loop ?_
    rw [Around.under_plainId PySem.F.plain_min_loop _]
    show wpAny _ X.A.in1 (seqItems? (.ref S) >>= _) _ _ _
    refine wpAny_bind (wpAny_seqItems hS rfl ?_)
    show wpAny _ X.A.in1 (tryCatch (pyNext (.ref it)) _ >>= _) _ _ _
    refine wpAny_bind (wpAny_tryCatch (wpAny_pyNext_list_end (I.ok.hd hc) hit pl.isList (by simp; omega) fun h' eb=>?_))
    have I1:Inv X pins σ H { s with heap:=h' }:=turned_of I fI fun a o ha e=>eb a o ha e
    have hS1:h'.get? S = some _:=eb S _ hSI hS
    show wpAny _ X.A.in1 (updateSeq S (fun _=>#[]) >>= _) _ _ _
    refine wpAny_bind ?_
    refine wpAny_updateSeq hS1 rfl (wpAny_bind (wpAny_letGo (wpAny_pure ?_)))
    exact hR i t _ hti (fun j' hj'=>best j' (by omega)) (turned_of (s:={ s with heap:=h' }) I1 fS fun a o ha e=>(Heap.get?_update_other _ _ (Ne.symm ha)).trans e)
  | succ r ih =>
    intro j i s tb c t hr hj I hfo hS hit hti hij best
    have hlt:j + 1 < ts.length:=by omega
    obtain ⟨its,rv,pl,hz⟩:=I.list hp
    obtain ⟨t1,ht1⟩:∃ t1,ts[j + 1]? = some t1:=⟨_,List.getElem?_eq_getElem hlt⟩
    obtain ⟨u,hu,ru⟩:=rv.get (show (ts.map V.ref)[j + 1]? = some (.ref t1) by rw [List.getElem?_map,ht1]; rfl)
    obtain rfl:u = .ref t1:=ru
    refine codeAny_builtin PySem.F.entry_min_loop ?_
    rw [Around.under_plainId PySem.F.plain_min_loop _]
    show wpAny _ X.A.in1 (seqItems? (.ref S) >>= _) _ _ _
    refine wpAny_bind (wpAny_seqItems hS rfl ?_)
    show wpAny _ X.A.in1 (tryCatch (pyNext (.ref it)) _ >>= _) _ _ _
    refine wpAny_bind (wpAny_tryCatch (wpAny_pyNext_list_item hit pl.isList (x:=.ref t1) (by simpa using hu) fun h' st' sb=>?_))
    have I1:Inv X pins σ H { s with heap:=h' }:=turned_of I fI fun a o ha e=>(sb.2 a ha).trans e
    show wpAny _ X.A.in1 (tryCatch (holding [.ref t1] (call (.ref f) [.ref t1])) _ >>= _) _ _ _
    refine wpAny_bind (wpAny_tryCatch (wpAny_holding (key_turn (S:=S) (it:=it) (j:=j + 1 + 1) (s:={ s with heap:=h' }) hk foc hf I1 ((sb.2 f hfI).trans hfo) ((sb.2 S hSI).trans hS) st' ht1 fun t2 s2 I2 hfo2 hS2 hit2=>?_)))
    show wpAny _ X.A.in1 (tryCatch (holding [.ref t1,.int (z (j + 1)) t2] (richCompare .Lt (.int (z (j + 1)) t2) (.int (z i) tb) >>= _)) _ >>= _) _ _ _
    refine wpAny_bind (wpAny_tryCatch (wpAny_holding (wpAny_bind (CmpOf.ints_lt (prog:=X.prog) (w:=X.w) (A:=X.A.in1) (P:=fun i v=>∃ t,v = .int (z i) t) z (fun i v h=>h) (j + 1) i _ _ _ _ _ ⟨t2,rfl⟩ ⟨tb,rfl⟩ ?_))))
    refine wpAny_bind (wpAny_holding (wpAny_truthy_bool ?_))
    refine wpAny_bind (wpAny_letGo (wpAny_pure ?_))
    by_cases hb':z (j + 1) < z i
    · have I3:Inv X pins σ H { s2 with heap:=s2.heap.update S (Obj.mapSeq fun _=>#[.ref t1,.int (z (j + 1)) t2]) }:=turned_of I2 fS fun a o ha e=>(Heap.get?_update_other _ _ (Ne.symm ha)).trans e
      simp only [hb',decide_true,if_true]
      refine wpAny_bind ?_
      refine wpAny_updateSeq hS2 rfl (wpAny_bind (wpAny_letGo ?_))
      rw [hname]
      obtain ⟨oI,hoI,hoc,hod⟩:=hit2
      refine wpAny_pure ⟨plainId_quiet PySem.F.plain_min_loop _,ih (j + 1) (j + 1) _ t2 _ t1 (by omega) hlt I3 ((Heap.get?_update_other _ _ (Ne.symm hfS)).trans hfo2) (Heap.get?_update_self _ hS2 rfl) ⟨oI,(Heap.get?_update_other _ _ hSI).trans hoI,hoc,hod⟩ ht1 (Nat.le_refl _) fun j' hj'=>?_⟩
      by_cases e:j' = j + 1
      · subst e
        exact ⟨by omega,fun _=>by omega⟩
      · have hb1:=best j' (by omega)
        have hb2:=hb1.1
        exact ⟨by omega,fun _=>by omega⟩
    · simp only [hb',decide_false,Bool.false_eq_true,if_false]
      refine wpAny_bind (wpAny_letGo ?_)
      rw [hname]
      refine wpAny_pure ⟨plainId_quiet PySem.F.plain_min_loop _,ih (j + 1) i _ tb c t (by omega) hlt I2 hfo2 hS2 hit2 hti (by omega) fun j' hj'=>?_⟩
      by_cases e:j' = j + 1
      · subst e
        exact ⟨by omega,fun _=>by omega⟩
      · exact best j' (by omega)
theorem minKey_list {s:Shared} {Q:VK} {E:Value→Shared→Prop} (I:Inv X pins σ H s) (hc:X.calm = true) (hp:SqL X.K H p (ts.map V.ref)) (h0:0 < ts.length) (hk:KeyOk X pins σ H f fo ts z) (foc:∀ v,fo.data≠.cell v) (ff:FpOk X pins H f) (hfo:s.heap.get? f = some fo)
    (q:∀ i t,ts[i]? = some t→(∀ j,j < ts.length→z i≤z j∧(j < i→z i < z j))→Q (.ref t) H) :
    wpAny (model X.prog X.w) X.A (call (.builtin "min") [.ref p] [(Str.ofString "key", .ref f)]) (EP X pins σ Q) E s:=by
  have hname:(toString "min" ++ toString ".loop" : String) = "min.loop" := by decide
  obtain ⟨its,rv,pl,hz⟩:=I.list hp
  obtain ⟨t1,ht1⟩:∃ t1,ts[0]? = some t1:=⟨_,List.getElem?_eq_getElem h0⟩
  obtain ⟨u,hu,ru⟩:=rv.get (show (ts.map V.ref)[0]? = some (.ref t1) by rw [List.getElem?_map,ht1]; rfl)
  obtain rfl:u = .ref t1:=ru
  refine kmk_tree PySem.F.kind_min PySem.F.plain_min PySem.F.entry_min (kmk_min_key _ _) ?_
  show wpAny _ X.A.in1 (Builtin.Builtins.bindParams "min" ["key", "default"] 0 ⟨[],[(Str.ofString "key", .ref f)]⟩ >>= _) _ _ s
  refine wpAny_bind (wpAny_of_eq (show Builtin.Builtins.bindParams "min" ["key", "default"] 0 ⟨[],[(Str.ofString "key", .ref f)]⟩ = pure [some (.ref f),none] from rfl) ?_)
  refine wpAny_bind (wpAny_pure ?_)
  refine wpAny_bind (wpAny_pyIter_list pl.isList ?_)
  refine wpAny_bind (wpAny_newObj_type ?_)
  rw [hname]
  refine wpAny_pure ⟨plainId_quiet PySem.F.plain_min_loop _,?_⟩
  have szI:(s.heap.push { cls:=.type "list_iterator", data:=.fields #[.ref p,.int 0 0] }).objs.size = s.heap.objs.size + 1:=Heap.size_push _ _
  rw [szI]
  have lf:=Heap.lt_size hfo
  have hsz:s.heap.objs.size + 1≠s.heap.objs.size:=Nat.succ_ne_self _
  have hfI:f≠s.heap.objs.size:=Nat.ne_of_lt lf
  have hfS:f≠s.heap.objs.size + 1:=Nat.ne_of_lt (Nat.lt_succ_of_lt lf)
  have kp:∀ b o,s.heap.get? b = some o→((s.heap.push { cls:=.type "list_iterator", data:=.fields #[.ref p,.int 0 0] }).push (lsO #[] 0)).get? b = some o:=fun b o e=>Heap.get?_push_of_some _ (Heap.get?_push_of_some _ e)
  have I0:Inv X pins σ H { s with heap:=(s.heap.push { cls:=.type "list_iterator", data:=.fields #[.ref p,.int 0 0] }).push (lsO #[] 0) }:=I.kept (t':=s.toks) kp
  have fI:FpOk X pins H s.heap.objs.size:=I.fpOk (Nat.le_refl _) (I.hok.fresh (Nat.le_refl _))
  have fS:FpOk X pins H (s.heap.objs.size + 1):=I.fpOk (Nat.le_succ _) (I.hok.fresh (Nat.le_succ _))
  have hf:∀ b∈[s.heap.objs.size,s.heap.objs.size + 1,f],FpOk X pins H b:=fun b hb=>by
    simp only [List.mem_cons,List.not_mem_nil,or_false] at hb
    rcases hb with rfl | rfl | rfl
    · exact fI
    · exact fS
    · exact ff
  have gS:((s.heap.push { cls:=.type "list_iterator", data:=.fields #[.ref p,.int 0 0] }).push (lsO #[] 0)).get? (s.heap.objs.size + 1) = some (lsO #[] 0):=by rw [← szI]; exact Heap.get?_push_size _ rfl
  have gI:((s.heap.push { cls:=.type "list_iterator", data:=.fields #[.ref p,.int 0 0] }).push (lsO #[] 0)).IsListIter s.heap.objs.size p 0:=⟨_,Heap.get?_push_of_some _ (Heap.get?_push_size _ rfl),rfl,rfl⟩
  obtain ⟨its0,rv0,pl0,hz0⟩:=I0.list hp
  obtain ⟨u0,hu0,ru0⟩:=rv0.get (show (ts.map V.ref)[0]? = some (.ref t1) by rw [List.getElem?_map,ht1]; rfl)
  obtain rfl:u0 = .ref t1:=ru0
  refine codeAny_builtin PySem.F.entry_min_loop ?_
  rw [Around.under_plainId PySem.F.plain_min_loop _]
  show wpAny _ X.A.in1 (seqItems? (.ref _) >>= _) _ _ _
  refine wpAny_bind (wpAny_seqItems gS rfl ?_)
  show wpAny _ X.A.in1 (tryCatch (pyNext (.ref s.heap.objs.size)) _ >>= _) _ _ _
  refine wpAny_bind (wpAny_tryCatch (wpAny_pyNext_list_item gI pl0.isList (x:=.ref t1) (by simpa using hu0) fun h' st' sb=>?_))
  have I1:Inv X pins σ H { s with heap:=h' }:=turned_of (s:={ s with heap:=(s.heap.push { cls:=.type "list_iterator", data:=.fields #[.ref p,.int 0 0] }).push (lsO #[] 0) }) I0 fI fun a o ha e=>(sb.2 a ha).trans e
  show wpAny _ X.A.in1 (tryCatch (holding [.ref t1] (call (.ref f) [.ref t1])) _ >>= _) _ _ _
  refine wpAny_bind (wpAny_tryCatch (wpAny_holding (key_turn (S:=s.heap.objs.size + 1) (it:=s.heap.objs.size) (j:=0 + 1) (s:={ s with heap:=h' }) hk foc hf I1 ((sb.2 f hfI).trans (kp _ _ hfo)) ((sb.2 _ hsz).trans gS) st' ht1 fun t2 s2 I2 hfo2 hS2 hit2=>?_)))
  have I3:Inv X pins σ H { s2 with heap:=s2.heap.update (s.heap.objs.size + 1) (Obj.mapSeq fun _=>#[.ref t1,.int (z 0) t2]) }:=turned_of I2 fS fun a o ha e=>(Heap.get?_update_other _ _ (Ne.symm ha)).trans e
  show wpAny _ X.A.in1 (updateSeq _ (fun _=>#[.ref t1,.int (z 0) t2]) >>= _) _ _ _
  refine wpAny_bind ?_
  refine wpAny_updateSeq hS2 rfl ?_
  rw [hname]
  obtain ⟨oI,hoI,hoc,hod⟩:=hit2
  refine wpAny_pure ⟨plainId_quiet PySem.F.plain_min_loop _,minKey_loop hc hp hk foc hf hsz hfI hfS (fun i t s' ht best J=>⟨.ref t,H,J,rfl,q i t ht best⟩) _ 0 0 _ t2 _ t1 rfl h0 I3 ((Heap.get?_update_other _ _ (Ne.symm hfS)).trans hfo2) (Heap.get?_update_self _ hS2 rfl) ⟨oI,(Heap.get?_update_other _ _ hsz).trans hoI,hoc,hod⟩ ht1 (Nat.le_refl _) fun j' hj'=>?_⟩
  have:j' = 0:=by omega
  subst this
  exact ⟨Int.le_refl _,fun h=>absurd h (Nat.lt_irrefl _)⟩
end
end L2
namespace L2
open PySem PySem.Spec PyProof.Rows
def BaseL (mg:Str→Option Value) (base:Heap) (c P:Addr):Prop :=
  PySem.W.CodeHd base c P∧∃ bm ob,mg "__builtins__" = some (.ref bm)∧bm≠builtinsNs∧bm≠mainGlobals∧base.get? bm = some ob∧ob.cls = .type "module" ∧ ob.dict = some builtinsNs∧ob.data = .plain
def tabL (l c:Nat) (qual:Str):HO:=.tbl #[rawInt l,rawInt c,.str qual 0]
section
variable {X:Cx} {pins:List (Addr × Obj)} {σ:St} {H:Hp} {s:Shared} {params:Arguments} {body:Expr} {scope:Scope} {lpos:Pos} {c P:Addr}
theorem lam_make {A:Around} {Q:Value→Shared→Prop} {E:Value→Shared→Prop} (I:Inv X pins σ H s) (B:BaseL X.mg X.base c P) (hcode:X.env.code = .ref c) (hP:H P = some (tabL lpos.line lpos.col (X.env.qual ++ "<lambda>")))
    (hcl:closureFor scope X.env = pure []) (hdef:defaultsOf params X.env = ([],[]))
    (q:∀ (f c':Addr) (ctv:Value) (oc:Obj) (vs:Array Value) (t':Tok) (s':Shared) (H':Hp),Inv X pins σ H' s'→Same H H'→FpOk X pins H' f→s'.heap.get? f = some (PySem.W.kla_obj "<lambda>" (X.env.qual ++ "<lambda>") params body scope [] ((X.mg "__name__").getD .none) c' ctv)→H' c' = some (.frz oc (.own P))→oc.data = .fields vs→vs[1]? = some (.str (X.env.qual ++ "<lambda>") t')→Q (.ref f) s') :
    wpAny (model X.prog X.w) A (eval (.Lambda params body scope lpos) X.env) Q E s:=by
  obtain ⟨hC,bm,ob,b1,b2,b3,b4,b5,b6,b7⟩:=B
  have hPn:∀ b o,X.base.get? b = some o→b≠P:=fun b o e z=>by
    have:=(I.bs b o e).2
    rw [z,hP] at this; cases this
  have hgs:=I.mod.glob.keeps I.bk
  have hgP:mainGlobals≠P:=by
    obtain ⟨o,es,ep,e,_⟩:=I.mod.glob
    exact hPn _ _ e
  have hBA:s.heap.BuiltinsAt X.mg P:=⟨bm,ob,b1,b2,b3,hPn _ _ b4,I.bk _ _ b4,b5,b6,b7⟩
  have hC':=hC.keeps I.bk
  refine PySem.W.kla_eval hdef ?_
  obtain ⟨qs,hqs,alt⟩:=(show ObjOk X.prog X.w H s.heap P (tabL lpos.line lpos.col (X.env.qual ++ "<lambda>")) from I.hok P _ hP)
  rcases alt with rfl | ⟨c0,oc,vs,qn,t,t',hc0,rfl,hq2,hd,hv⟩
  · refine PySem.W.kla_makeFunction (mg:=X.mg) hcl I.ok.glob hgs hcode hC' hqs trivial rfl hgP hBA fun c' ctv h' tk hx hge hlt hrec htb=>?_
    obtain ⟨c2,oc,vs,t,e2,hoc,hd,hv⟩:=hrec
    cases e2
    have hn:H c' = none:=I.hok.fresh hge
    have old:∀ b u,H b = some u→b≠c':=fun b u e z=>by rw [z,hn] at e; cases e
    have cP:c'≠P:=fun z=>by rw [z,hP] at hn; cases hn
    have kp:∀ b o,b≠P→s.heap.get? b = some o→(h'.push (PySem.W.kla_obj "<lambda>" (X.env.qual ++ "<lambda>") params body scope [] ((X.mg "__name__").getD .none) c' ctv)).get? b = some o:=fun b o hb e=>Heap.get?_push_of_some _ (hx b o hb e)
    have nP:∀ b,H b = none→b≠P:=fun b n z=>by rw [z,hP] at n; cases n
    have tP:(h'.push (PySem.W.kla_obj "<lambda>" (X.env.qual ++ "<lambda>") params body scope [] ((X.mg "__name__").getD .none) c' ctv)).get? P = some (PySem.W.tabObj (#[] ++ #[rawInt lpos.line,rawInt lpos.col,.ref c'])):=Heap.get?_push_of_some _ htb
    have cO:(h'.push (PySem.W.kla_obj "<lambda>" (X.env.qual ++ "<lambda>") params body scope [] ((X.mg "__name__").getD .none) c' ctv)).get? c' = some oc:=Heap.get?_push_of_some _ hoc
    have fge:s.heap.objs.size≤h'.objs.size:=Nat.le_of_lt (Nat.lt_of_le_of_lt hge hlt)
    have J:Inv X pins σ (upd H c' (.frz oc (.own P))) { s with heap:=h'.push (PySem.W.kla_obj "<lambda>" (X.env.qual ++ "<lambda>") params body scope [] ((X.mg "__name__").getD .none) c' ctv),toks:=tk }:=by
      refine I.step (g':=s.gens) (d':=s.drawn) (ch:=[]) (fun _ z=>nomatch z) (fun b o _ _ _ e n=>kp b o (nP b n) e) (fun b o _ _ _ e n=>⟨o.slots,kp b o (nP b n) e⟩) (fun b o _ e n=>?_) (fun b o _ e=>?_) (fun b xs e=>?_) (fun b o u e=>?_) (fun b ps e=>⟨#[],?_⟩) (fun m hm=>?_) (fun b u e=>?_) I.bare
      · rw [upd_ne (Nat.ne_of_lt (Nat.lt_of_lt_of_le (Heap.lt_size e) hge))]; exact n
      · by_cases z:b = P
        · subst z; exact ⟨_,tP⟩
        · exact ⟨o,kp b o z e⟩
      · rw [upd_ne (old b _ e)]; exact e
      · rw [upd_ne (old b _ e)]; exact e
      · rw [upd_ne (old b _ e),e]; simp
      · exact (hm.extBut hx (nP _ I.free)).push _
      · by_cases z:b = c'
        · subst z
          rw [upd_same] at e; cases e
          exact ⟨cO,oc,cO⟩
        · rw [upd_ne z] at e
          by_cases y:b = P
          · subst y
            rw [hP] at e; cases e
            exact ⟨_,tP,.inr ⟨c',oc,vs,_,0,t,upd_same,rfl,rfl,hd,hv⟩⟩
          · refine (I.hok b u e).stay (fun d v hdd r=>kp d v ?_ r) (fun d r=>by rw [upd_ne (old d _ r)]; exact r) (fun d xs r=>by rw [upd_ne (old d _ r)]; exact r) fun d ob v r=>by rw [upd_ne (old d _ r)]; exact r
            rcases hdd with rfl | hdd
            · exact y
            · intro x; rw [x,hP] at hdd; cases hdd
    refine q _ c' ctv oc vs t _ _ J (fun b o e=>by rw [upd_ne (old b o e)]; exact e) (I.fpOk fge ?_) (Heap.get?_push_size _ rfl) upd_same hd hv
    rw [upd_ne (Nat.ne_of_gt hlt)]
    exact I.hok.fresh fge
  · have eq:qn = X.env.qual ++ "<lambda>" := by
      have:some (Value.str (X.env.qual ++ "<lambda>") 0) = some (.str qn t):=hq2
      injection this with z; injection z with z1 z2; exact z1.symm
    subst eq
    refine PySem.W.kla_makeFunctionHit (mg:=X.mg) (cv:=.ref c0) hcl I.ok.glob hgs hcode hC' hqs trivial ?_ hBA fun ctv h' tk hk hsz=>?_
    · show (if ((lpos.line:Int) == lpos.line && (lpos.col:Int) == lpos.col) = true then some (Value.ref c0) else _) = _
      rw [if_pos (by simp)]
    have J:Inv X pins σ H { s with heap:=h'.push { cls:=.type "function", data:=.func (PySem.W.kla_fn "<lambda>" (X.env.qual ++ "<lambda>") params body scope [] ((X.mg "__name__").getD .none) (.ref c0) ctv) },toks:=tk }:=I.kept fun b u e=>Heap.get?_push_of_some _ (hk b u e)
    exact q _ c0 ctv oc vs t' _ _ J (Same.refl _) (I.fpOk hsz (I.hok.fresh hsz)) (Heap.get?_push_size _ rfl) hc0 hd hv
end
def tMinKey (K:PySem.W.Frag) (P:Addr) (tb:HO) (t:TA):TE:=fun σ H Q=>t σ H fun xs H1=>∃ (p:Addr) (ts:List Addr) (z:Nat→Int),xs = [.ref p]∧H1 P = some tb∧SqL K H1 p (ts.map V.ref)∧0 < ts.length∧(∀ i t,ts[i]? = some t→∃ q,H1 t = some (.tup [q,.int (z i)])) ∧
  ∀ i t H2,Same H1 H2→ts[i]? = some t→(∀ j,j < ts.length→z i≤z j∧(j < i→z i < z j))→Q (.ref t) H2
section
variable {X:Cx} {x lx:Str} {p pos kpos lpos:Pos} {e body:Expr} {t:TA} {params:Arguments} {scope:Scope} {c P:Addr}
theorem pe_minKey {K:PySem.W.Frag} {k:Nat} (hK:X.K = K) (hc:X.calm = true) (hr:Room (k + 2) X.A) (hg:Gl X x) (hm:X.mg x = none) (hv:bootBuiltins x = some (.builtin "min")) (B:BaseL X.mg X.base c P) (hcode:X.env.code = .ref c) (ha:PA X [e] t)
    (S:FnScope [lx] [lx] scope) (hcl:closureFor scope X.env = pure []) (hdef:defaultsOf params X.env = ([],[]))
    (hbd:∀ (qual:Str) (pm cdv ctv u:Value),bindArgs (PySem.W.kla_fn "<lambda>" qual params body scope [] pm cdv ctv) ⟨[u],[]⟩ = pure [(lx,u)])
    (hpe:∀ (f':Addr) (cv:Value) (qual:Str) (A':Around) (s':Shared) (H':Hp),PE (cxOf CX0 X.prog X.w X.K X.mg X.base [lx] qual scope f' cv A' X.stack s' H' E0) body (tOp (rIxT X.K) (tVar 0) (tC (.int 1))))
    (hn:x ≠ "__name__" := by decide) (hdb:(x == ("__debug__" : Str)) = false:=by decide)
    (he:backTo pos (starEach [e] X.env) = (false,eval e X.env) :: backTo pos (starEach [] X.env):=by rfl) (hpl:(backTo pos (starEach [e] X.env)).any (·.1) = false:=by rfl)
    (hks:(backToKw pos (keywordEach [⟨some "key", .Lambda params body scope lpos,kpos⟩] X.env)).filterMap (·.1) = [Str.ofString "key"]:=by rfl) :
    PE X (.Call (.Name x p) [e] [⟨some "key", .Lambda params body scope lpos,kpos⟩] pos) (tMinKey K P (tabL lpos.line lpos.col (X.env.qual ++ "<lambda>")) t):=by
  subst hK
  intro pins s σ H Q I h
  refine wpAny_Call_Name_kw (ld_blt I hg hm hv ?_ hn hdb)
  refine callWith_kw (thn (ha pos pins s σ H _ I h) fun us s1 ⟨vs,H1,I1,r1,q1⟩=>?_) he hpl
  obtain ⟨pp,ts,z,rfl,hP,hq,h0,hz,hQ⟩:=q1
  obtain ⟨u,rfl,rx⟩:=vals1 r1
  cases rx
  show wpAny _ _ (evalAll ((do let v ← eval (.Lambda params body scope lpos) X.env; standAt pos; pure v) :: (backToKw pos (keywordEach [] X.env)).map (·.2))) _ _ s1
  refine wpAny_evalAll_cons (wpAny_bind (lam_make I1 B hcode hP hcl hdef fun f c' ctv oc vs t' s2 H2 I2 g2 ff hfo hc' hd hv'=>wpAny_bind (wpAny_standAt (wpAny_pure ?_))))
  refine wpAny_evalAll_nil ?_
  rw [hks]
  have g1:=g2.seq hq
  refine minKey_list (z:=z) I2 hc g1 h0 (fun s3 pl i t J hfo3 ht=>?_) (fun v e=>by cases e) ff hfo fun i t ht best=>hQ i t H2 g2 ht best
  obtain ⟨qv,hqt⟩:=hz i t ht
  have hcd:s3.heap.CodeRec (.ref c') (X.env.qual ++ "<lambda>"):=⟨c',oc,vs,t',rfl,(J.hok c' _ hc').1,hd,hv'⟩
  refine wpAny_call (codeAny_mono (lam_run (k:=k) (vs:=[.ref t]) (us:=[.ref t]) (Q:=fun v H'=>v = .int (z i)∧H' = H2) hfo3 hcd S hr.in1 J.env0.in1 (hbd _ _ _ _ _) rfl (.cons rfl .nil) (hpe _ _ _ _ _ _) ⟨_,rfl,t,[qv,.int (z i)],1,.int (z i),rfl,rfl,SqT.of (g2 _ _ hqt),rfl,rfl,rfl⟩) fun r s' hq'=>?_)
  cases r with
  | error e=>exact hq'.elim
  | ok fl =>
    cases fl with
    | ret u =>
      obtain ⟨v,H',J',rv,rfl,rfl⟩:=J.after hq'
      exact ⟨rv,J'⟩
    | next=>exact False.elim hq'
    | brk=>exact False.elim hq'
    | cont=>exact False.elim hq'
end
end L2
namespace L2
open PySem PySem.Spec PyProof.Rows
structure LamD (K:PySem.W.Frag) (x:Str) (d:FuncData) (c P:Addr):Prop where
  code:d.code = .ref c
  tab:PySem.W.tabIn K x = some (c,P)
  noP:K.lookup P = none
theorem lamD_mk {K:PySem.W.Frag} {x:Str} {f c P:Addr} {d:FuncData} {oc o1:Value} {od o2:Option Addr} {osl o3:Array (Option Value)} {vs:Array Value} (n:PySem.W.nsIn K mainGlobals x = some (some (.ref f))) (l:K.lookup f = some ⟨oc,od,.func d,osl⟩) (e:d.code = .ref c)
    (lc:K.lookup c = some ⟨o1,o2,.fields vs,o3⟩) (v:vs[11]? = some (.ref P)) (np:K.lookup P = none):LamD K x d c P:=by
  refine ⟨e,?_,np⟩
  unfold PySem.W.tabIn
  rw [n]
  simp only [l,e,lc,v]
section
variable {P:Program} {w:World} {K:PySem.W.Frag} {mg:Str→Option Value} {base:Heap}
theorem Fun.okL {x qual:Str} {st:Stmt} {f c:Addr} {fd:FuncData} {N ps:List Str} {k:Nat} {sp:Sp} (F:Fun K x qual st f fd) (hc:fd.code = .ref c) (S:FnScope N ps (defScope st)) (len:∀ vs H Q E,sp vs H Q E→vs.length = ps.length)
    (hbody:∀ (A:Around) (outer:List Env) (s:Shared) (H:Hp) (vs:List V) (Q:VK) (E:XK),Room k (A.deeper (envOfC qual (defScope st) s.heap.objs.size f (.ref c)))→sp vs H Q E →
      ∃ t,PSs (cxOf CX0 P w K mg base N qual (defScope st) f (.ref c) A outer s H E).nox (defBody st) t∧t { nx:=fun _ H'=>Q .non H',rt:=Q } (start N vs) H):FnOk P w K mg base CX0 (k + 1) f fd ps sp:=by
  obtain ⟨oc,od,kV,doc,pm,an,cdv,ct,osl,rfl,lk,hcd⟩:=F.ex
  have e:cdv = .ref c:=hc
  subst e
  refine fn_of lk hcd S len fun A outer s H vs Q E hr hsp=>?_
  obtain ⟨t,h,q⟩:=hbody A outer s H vs Q E hr hsp
  exact ⟨t,h.nox,q⟩
end
theorem law_callT {P:Program} {w:World} {K:PySem.W.Frag} {mg mb:Str→Option Value} {CX:CXT} {k:Nat} {fa a c Pt:Addr} {fd:FuncData} {x:Str} {sp:Sp} {s₁:Shared} {vs:List Value} {ns:List Int} {ln cl:Nat} {qual:Str}
    (KX:K.In s₁.heap) (hns:s₁.heap.Ns mainGlobals mg) (hb:s₁.heap.Ns builtinsNs mb) (hbb:∀ x:Str,x ≠ "__name__" → mb x = bootBuiltins x) (hlim:s₁.heap.NoLimit) (hg:s₁.gens = #[])
    (ha:s₁.heap.get? a = some { cls:=.type "list", data:=.seq vs.toArray }) (hi:IntsAre vs ns) (hl:ns.length≤sizeLine) (hr:Room k callerA)
    (hC:PySem.W.CodeHd s₁.heap c Pt) (hT:s₁.heap.get? Pt = some (PySem.W.tabObj #[])) (hKP:K.lookup Pt = none)
    (bmain:∃ bm ob,mg "__builtins__" = some (.ref bm)∧bm≠builtinsNs∧s₁.heap.get? bm = some ob∧ob.cls = .type "module" ∧ ob.dict = some builtinsNs∧ob.data = .plain)
    (F:∀ base:Heap,K.In base→base.Ns mainGlobals mg→BaseL mg base c Pt→FnOk P w K mg base CX k fa fd [x] sp) (hbind:∀ (s:Shared) (u:Value),BindsTo s fd ⟨[u],[]⟩ [(x,u)])
    (hsp:∀ H:Hp,H Pt = some (tabL ln cl qual)→SqL K H a (ns.map V.int)→sp [.ref a] H (fun v _=>v = .bl true) fun _ _ _=>False)
    (hCX:∀ H e s',CX [] H s₁ (fun _ _ _=>False) e s'→False) :
    codeAny (model P w) callerA (.call (.ref fa) ⟨[.ref a],[]⟩) (fun r s'=>r = .ok (.ret (.bool true))∧OldK s₁.heap s'.heap∧s'.os = s₁.os∧AllBare s'.gens) s₁:=by
  have rv:=vals_ints hi
  have lenV:=hi.length
  have aP:a≠Pt:=fun e=>by rw [e,hT] at ha; cases ha
  have core:∀ H:Hp,H Pt = some (tabL ln cl qual)→(∀ b,b≠Pt→H b = none∨∃ o xs,H b = some (.frz o (.lst xs)))→SqL K H a (ns.map V.int)→HOk P w H s₁.heap→(∀ b,H b≠none→b = a∨b = Pt)→(H a≠none→K.lookup a = none) →
      codeAny (model P w) callerA (.call (.ref fa) ⟨[.ref a],[]⟩) (fun r s'=>r = .ok (.ret (.bool true))∧OldK s₁.heap s'.heap∧s'.os = s₁.os∧AllBare s'.gens) s₁:=by
    intro H hPt hO hS hok hA hK
    have base_of:∀ {b:Addr} {o:Obj},s₁.heap.get? b = some o→H b = none→(hidT s₁.heap H).get? b = some o:=fun e n=>hidT_get e n
    have noB:∀ {b:Addr} {o:Obj},s₁.heap.get? b = some o→b≠Pt→(∀ it n,o.data≠.seq it n)→H b = none:=fun {b o} e nb d=>by
      cases q:H b with
      | none=>rfl
      | some u =>
        rcases hA b (by rw [q]; simp) with e' | e'
        · subst e'
          rw [ha] at e; cases e
          exact absurd rfl (d _ _)
        · exact absurd e' nb
    have noA:∀ {b:Addr} {o:Obj} {es:Array DictEntry} {ep:Nat},s₁.heap.get? b = some o→o.data = .dict es ep→H b = none:=fun {b o es ep} e d=>noB e (fun z=>by rw [z,hT] at e; cases e; cases d) fun it n z=>by rw [d] at z; cases z
    have nsK:∀ {b:Addr} {m:Str→Option Value},s₁.heap.Ns b m→(hidT s₁.heap H).Ns b m:=fun {b m} ⟨o,es,ep,e,d,r⟩=>⟨o,es,ep,base_of e (noA e d),d,r⟩
    have hKb:K.In (hidT s₁.heap H):=fun b o e=>base_of (KX b o e) (by
      cases q:H b with
      | none=>rfl
      | some u =>
        rcases hA b (by rw [q]; simp) with e' | e'
        · subst e'
          rw [hK (by rw [q]; simp)] at e; cases e
        · subst e'
          rw [hKP] at e; cases e)
    have hM:Mod K mg (hidT s₁.heap H):=⟨hKb,nsK hns,⟨mb,nsK hb,hbb⟩,let ⟨mc,h1,h2⟩:=hlim; ⟨mc,nsK h1,h2⟩⟩
    have hBL:BaseL mg (hidT s₁.heap H) c Pt:=by
      obtain ⟨o,vs',file,tf,flags,tg,inF,text,tt,e1,r1,r2,r3,r4,r5,r6,r7,r8,hne⟩:=id hC
      obtain ⟨bm,ob,b1,b2,b3,b4,b5,b6⟩:=bmain
      refine ⟨⟨o,vs',file,tf,flags,tg,inF,text,tt,base_of e1 (noB e1 hne fun it n z=>by rw [r2] at z; cases z),r1,r2,r3,r4,r5,r6,r7,r8,hne⟩,bm,ob,b1,b2,fun z=>?_,base_of b3 (noB b3 (fun z=>by rw [z,hT] at b3; cases b3; cases b4) fun it n z=>by rw [b6] at z; cases z),b4,b5,b6⟩
      obtain ⟨og,es,ep,e,d,_⟩:=hns
      rw [z,e] at b3; cases b3
      rw [d] at b6; cases b6
    have e0:Env0 P w K mg (hidT s₁.heap H) callerA [] s₁ H:=⟨rfl,hM,fun b o e=>of_hidT e,Nat.le_of_eq (hidT_size _ _),trivial,fun b hb=>absurd (show b∈([]:List Addr) from hb) (by simp),hok,.of_eq hg⟩
    refine codeAny_mono ((F _ hKb (nsK hns) hBL).run callerA [] s₁ H ⟨[.ref a],[]⟩ [.ref a] [.ref a] _ _ hr e0 (hbind s₁ (.ref a)) (.cons rfl .nil) (hsp H hPt hS)) fun r s' h=>?_
    cases r with
    | error e=>exact (hCX H e s' h).elim
    | ok fl =>
      cases fl with
      | next=>exact False.elim h
      | brk=>exact False.elim h
      | cont=>exact False.elim h
      | ret u =>
        obtain ⟨v,H',os,bare,un,hok',r',q⟩:=h
        have q':v = .bl true:=q
        subst q'
        obtain rfl:u = Value.bool true:=r'
        have kp:∀ b o,b≠Pt→s₁.heap.get? b = some o→s'.heap.get? b = some o:=fun b o nb e=>by
          cases q:H b with
          | none=>exact un.keep b o e q (by intro z; exact absurd (show b∈([]:List Addr) from z) (by simp)) (by simp)
          | some u =>
            rcases hO b nb with z | ⟨ob,xs,z⟩
            · rw [q] at z; cases z
            · have z2:=un.frzs b ob _ z
              obtain ⟨e1,_⟩:=hok b _ z
              obtain ⟨e2,_⟩:=hok' b _ z2
              rw [e] at e1; cases e1
              exact e2
        obtain ⟨more,hm⟩:=un.tbls Pt _ hPt
        obtain ⟨qs,hqs,_⟩:=hok' Pt _ hm
        refine ⟨rfl,⟨fun b o e=>?_,fun b o e=>?_⟩,os,bare⟩
        · by_cases nb:b = Pt
          · subst nb
            rw [hT] at e; cases e
            exact .inr (.inl ⟨(hC.tab hT).isCodeTable,rfl,#[],qs,rfl,by rw [Array.empty_append]; exact hqs⟩)
          · exact .inl (kp b o nb e)
        · by_cases nb:b = Pt
          · subst nb; exact ⟨_,hqs⟩
          · exact ⟨o,kp b o nb e⟩
  have okP:∀ H:Hp,ObjOk P w H s₁.heap Pt (tabL ln cl qual):=fun H=>⟨#[],hT,.inl rfl⟩
  cases hk:K.lookup a with
  | some o =>
    have e:=KX a o hk
    rw [ha] at e
    cases e
    refine core (fun b=>if b = Pt then some (tabL ln cl qual) else none) (if_pos rfl) (fun b nb=>.inl (if_neg nb)) (.inr ⟨_,vs.toArray,_,hk,rfl,rfl,rfl,by rw [List.size_toArray,lenV]; exact hl,by simpa using rv⟩) (fun b u z=>?_) (fun b z=>?_) fun z=>absurd (if_neg aP) z
    · by_cases hb:b = Pt
      · have z':=(if_pos hb).symm.trans z
        cases z'
        subst hb
        exact okP _
      · have z':=(if_neg hb).symm.trans z
        cases z'
    · by_cases hb:b = Pt
      · exact .inr hb
      · exact absurd (if_neg hb) z
  | none =>
    refine core (fun b=>if b = Pt then some (tabL ln cl qual) else if b = a then some (.frz { cls:=.type "list", data:=.seq vs.toArray } (.lst (ns.map V.int))) else none) (if_pos rfl) (fun b nb=>?_) (.inl (.inr ⟨{ cls:=.type "list", data:=.seq vs.toArray },(if_neg aP).trans (if_pos rfl)⟩)) (fun b u z=>?_) (fun b z=>?_) fun _=>hk
    · by_cases hb:b = a
      · exact .inr ⟨_,_,(if_neg nb).trans (if_pos hb)⟩
      · exact .inl ((if_neg nb).trans (if_neg hb))
    · by_cases hp:b = Pt
      · have z':=(if_pos hp).symm.trans z
        cases z'
        subst hp
        exact okP _
      · by_cases hb:b = a
        · have z':=((if_neg hp).trans (if_pos hb)).symm.trans z
          cases z'
          subst hb
          exact ⟨ha,by rw [List.length_map]; exact hl,vs,_,rv,ha⟩
        · have z':=((if_neg hp).trans (if_neg hb)).symm.trans z
          cases z'
    · by_cases hp:b = Pt
      · exact .inr hp
      · by_cases hb:b = a
        · exact .inl hb
        · exact absurd ((if_neg hp).trans (if_neg hb)) z
theorem walk_ofT {l:PySem.W.OpenLaw} {n k:Nat} {q:Program} {loose:List Str} {XP:(Str→Option Value)→Heap→Prop} {YP:World→Heap→Prop} {d dr:DefRec} {K:Params→PySem.W.Frag} {CX:CXT} {sp:PySem.W.Frag→Addr→Sp} {x y:Str} {ln cl:Nat} {qual:Str}
    (hn:l.most = some n) (hn2:n≤sizeLine) (hdf:d.params.defaults = []) (hr:Room k callerA)
    (hY:∀ (w:World) (h:Heap),YP w h→(K w.params).In h)
    (hrec:(recsOf q).find? (fun e=>e.name == y) = some dr)
    (F:∀ (w:World) (mg:Str→Option Value) (fa:Addr) (h:Heap),(K w.params).In h→h.Ns mainGlobals mg→mg d.name = some (.ref fa) →
      ∃ (fd fb:FuncData) (c Pt:Addr),LamD (K w.params) y fb c Pt∧(∀ (s:Shared) (u:Value),BindsTo s fd ⟨[u],[]⟩ [(x,u)]) ∧
        ∀ base:Heap,(K w.params).In base→base.Ns mainGlobals mg→BaseL mg base c Pt→FnOk l.prog w (K w.params) mg base CX k fa fd [x] (sp (K w.params) Pt))
    (hsp:∀ (K:PySem.W.Frag) (Pt:Addr) (H:Hp) (a:Addr) (ns:List Int),ns.length≤n→H Pt = some (tabL ln cl qual)→SqL K H a (ns.map V.int)→sp K Pt [.ref a] H (fun v _=>v = .bl true) fun _ _ _=>False)
    (hCX:∀ (H:Hp) (s:Shared) (e:Value) (s':Shared),CX [] H s (fun _ _ _=>False) e s'→False) :
    PySem.W.WalkO q loose XP YP l.row.toRowW d [] (fun f vs=>PySem.call f vs):=by
  refine Att.attach_call hn hdf fun w s₀ s₁ mg mb fa o pm cd doc a vs ns G Y ho hd hcd hmg hobj hints hlen hg=>?_
  have KX:=hY w _ Y
  obtain ⟨fd,fb,c,Pt,L,hb,hF⟩:=F w mg fa _ KX G.T.g hmg
  obtain ⟨hC,hT⟩:=PySem.W.tab_of G.T KX hrec L.tab
  exact law_callT KX G.T.g G.T.b G.T.builtins G.T.nolimit hg hobj hints (Nat.le_trans hlen hn2) hr hC hT L.noP G.T.bmain hF hb (fun H hO hS=>hsp _ Pt H a ns hlen hO hS) fun H e s'=>hCX H s₁ e s'
end L2
namespace L2
open PySem PySem.Spec PyProof.Rows
section
variable {X:Cx} {pins:List (Addr × Obj)} {σ:St} {H:Hp} {s:Shared}
theorem HOk.track {P:Program} {w:World} {H:Hp} {h:Heap} {a:Addr} {o:HO} (x:HOk P w H h) (hn:H a = none) (new:ObjOk P w (upd H a o) h a o):HOk P w (upd H a o) h:=fun b u e=>by
  by_cases hb:b = a
  · subst hb
    rw [upd_same] at e
    cases e
    exact new
  · rw [upd_ne hb] at e
    refine (x b u e).stay (fun _ _ _ q=>q) (fun c q=>?_) (fun c xs q=>?_) fun c ob v q=>?_
    · rw [upd_ne (ne_of_none q hn)]; exact q
    · rw [upd_ne (ne_of_none q hn)]; exact q
    · rw [upd_ne (ne_of_none q hn)]; exact q
theorem Inv.track {a:Addr} {o:HO} (I:Inv X pins σ H s) (hn:H a = none) (hL:a≠X.env.locals) (h0:X.s₀.heap.objs.size≤a) (hc:∀ x c,X.env.cells.lookup x = some c→c≠a) (hp:∀ p∈X.pn ++ pins,p.1≠a)
    (new:ObjOk X.prog X.w (upd H a o) s.heap a o):Inv X pins σ (upd H a o) s:=by
  have old:∀ b ob,X.s₀.heap.get? b = some ob→b≠a:=fun b ob e=>Nat.ne_of_lt (Nat.lt_of_lt_of_le (Heap.lt_size e) h0)
  refine ⟨I.ok,I.os,I.bare,⟨fun b ob e n=>I.base.keep b ob e n,fun b ob e n=>I.base.slot b ob e n,fun b ob e n hx=>?_,fun b ob e hx=>I.base.there b ob e hx,fun b xs e=>?_,fun b ob u e=>?_,fun b ps e=>?_⟩,I.loc,I.cell,?_,fun x c e=>?_,fun p hm=>?_,I.hok.track hn new,I.len⟩
  · rw [upd_ne (old b ob e)]; exact I.base.free b ob e n hx
  · have q:=I.base.tups b xs e
    rw [upd_ne (ne_of_none q hn)]; exact q
  · have q:=I.base.frzs b ob u e
    rw [upd_ne (ne_of_none q hn)]; exact q
  · obtain ⟨mo,q⟩:=I.base.tbls b ps e
    exact ⟨mo,by rw [upd_ne (ne_of_none q hn)]; exact q⟩
  · rw [upd_ne (Ne.symm hL)]; exact I.free
  · rw [upd_ne (hc x c e)]; exact I.freeC x c e
  · obtain ⟨z1,z2,z3⟩:=I.pin p hm
    exact ⟨z1,by rw [upd_ne (hp p hm)]; exact z2,z3⟩
end
def clo:List (Str × NameKind)→List (Str × Addr)→List (Str × Addr)→List (Str × Addr)
  | [],_,acc=>acc
  | (n,k) :: r,cells,acc=>clo r cells (if k == .free then (match cells.lookup n with | some c=>(n,c) :: acc | none=>acc) else acc)
theorem clo_sound (cells:List (Str × Addr)):∀ (names:List (Str × NameKind)) (acc:List (Str × Addr)),(∀ y c,acc.lookup y = some c→cells.lookup y = some c)→∀ y c,(clo names cells acc).lookup y = some c→cells.lookup y = some c
  | [],acc,h=>h
  | (n,k) :: r,acc,h=>by
    refine clo_sound cells r _ fun y c e=>?_
    cases hk:k == NameKind.free with
    | false=>rw [hk] at e; exact h y c e
    | true =>
      rw [hk,if_pos rfl] at e
      cases hc:cells.lookup n with
      | none=>rw [hc] at e; exact h y c e
      | some a =>
        rw [hc] at e
        have e':(((n,a) :: acc).lookup y) = some c:=e
        rw [List.lookup_cons] at e'
        cases hy:y == n with
        | true =>
          rw [hy] at e'
          have z:y = n:=by simpa using hy
          subst z
          rw [hc]; exact e'
        | false=>rw [hy] at e'; exact h y c e'
theorem clo_keeps (cells:List (Str × Addr)):∀ (names:List (Str × NameKind)) (acc:List (Str × Addr)) (y:Str),(acc.lookup y).isSome = true→((clo names cells acc).lookup y).isSome = true
  | [],_,_,h=>h
  | (n,k) :: r,acc,y,h=>by
    refine clo_keeps cells r _ y ?_
    cases hk:k == NameKind.free with
    | false=>exact h
    | true =>
      rw [if_pos rfl]
      cases hc:cells.lookup n with
      | none=>exact h
      | some a =>
        show (((n,a) :: acc).lookup y).isSome = true
        rw [List.lookup_cons]
        cases hy:y == n with
        | true=>rfl
        | false=>exact h
theorem clo_has (cells:List (Str × Addr)):∀ (names:List (Str × NameKind)) (acc:List (Str × Addr)) (y:Str),(y,NameKind.free)∈names→(cells.lookup y).isSome = true→((clo names cells acc).lookup y).isSome = true
  | [],_,_,h,_=>by cases h
  | (n,k) :: r,acc,y,h,hs=>by
    rcases List.mem_cons.mp h with e | h
    · cases e
      refine clo_keeps cells r _ n ?_
      show (((match cells.lookup n with | some c=>(n,c) :: acc | none=>acc)).lookup n).isSome = true
      cases hc:cells.lookup n with
      | none=>rw [hc] at hs; cases hs
      | some a =>
        show (((n,a) :: acc).lookup n).isSome = true
        rw [List.lookup_cons]
        simp
    · exact clo_has cells r _ y h hs
theorem clo_run {env:Env}:∀ (names:List (Str × NameKind)) (acc:List (Str × Addr)),(∀ y,(y,NameKind.free)∈names→(env.cells.lookup y).isSome = true) →
    (forIn names acc fun (x:Str × NameKind) (cs:List (Str × Addr))=>if (x.2 == NameKind.free) = true then do let c ← cellOf env x.1; pure (ForInStep.yield ((x.1,c) :: cs)) else pure (ForInStep.yield cs):Sem (List (Str × Addr))) = pure (clo names env.cells acc)
  | [],acc,_=>rfl
  | (n,k) :: r,acc,h=>by
    have ih:=fun acc'=>clo_run (env:=env) r acc' fun y hy=>h y (List.mem_cons_of_mem _ hy)
    rw [List.forIn_cons]
    cases hk:k == NameKind.free with
    | false =>
      show ((pure (ForInStep.yield acc):Sem _) >>= _) = _
      rw [pure_bind]
      show (forIn r acc _:Sem _) = _
      rw [ih acc]
      show pure (clo r env.cells acc) = pure (clo r env.cells (if (k == NameKind.free) = true then (match env.cells.lookup n with | some c=>(n,c) :: acc | none=>acc) else acc))
      rw [hk]; rfl
    | true =>
      have hkf:k = NameKind.free:=by simpa using hk
      subst hkf
      have hs:=h n List.mem_cons_self
      cases hc:env.cells.lookup n with
      | none=>rw [hc] at hs; cases hs
      | some a =>
        have hcell:cellOf env n = pure a:=by unfold cellOf; rw [hc]
        show ((cellOf env n >>= fun c=>(pure (ForInStep.yield ((n,c) :: acc)):Sem _)) >>= _) = _
        rw [hcell,pure_bind,pure_bind]
        show (forIn r ((n,a) :: acc) _:Sem _) = _
        rw [ih]
        show pure (clo r env.cells ((n,a) :: acc)) = pure (clo r env.cells (match env.cells.lookup n with | some c=>(n,c) :: acc | none=>acc))
        rw [hc]
theorem closure_eq {sc:Scope} {env:Env} (h:∀ y,(y,NameKind.free)∈sc.names→(env.cells.lookup y).isSome = true):closureFor sc env = pure (clo sc.names env.cells []):=by
  unfold closureFor
  have:=clo_run (env:=env) sc.names [] h
  simpa using this
structure LcOk (osc sc:Scope) (x:Str) (fv:List Str):Prop where
  kind:sc.kind = .function
  nocell:∀ y∈sc.names,y.2≠.cell
  names:∀ y∈sc.names,y.2 = .local→sc.names.lookup y.1 = some .local
  hx:sc.names.lookup x = some .local
  fr:∀ y∈sc.names,y.2 = .free→osc.names.lookup y.1 = some .cell∨osc.names.lookup y.1 = some .free
  fvs:∀ y∈fv,sc.names.lookup y = some .free∧(osc.names.lookup y = some .cell∨osc.names.lookup y = some .free)
  nd:(x :: fv).Nodup
abbrev Cx.blk (X:Cx) (sc:Scope) (cl:List (Str × Addr)) (C:Addr) (N:List Str) (s:Shared) (H:Hp) (fp:List Addr):Cx :=
  { X with N:=N,s₀:=s,H₀:=H,env:=compEnvC sc cl C X.env,outer:=X.stack,ex:=fp,fn:=fun _=>false,pn:=[],xe:=fun _ _=>False }
abbrev lcN (X:Cx) (x:Str) (js:List Nat):List Str:=x :: js.map fun j=>X.N.getD j ""
abbrev lcS (σ:St) (js:List Nat) (x:Option V):St:=x :: js.map fun j=>σ.getD j none
theorem relabel_free {env:Env}:∀ {names:List (Str × NameKind)} {y:Str} {k:NameKind},(names.map fun (n,k)=>if (k == NameKind.free && env.scope.kind == .function && env.kindOf n == some .cell) then (n,NameKind.cell) else (n,k)).lookup y = some k→(k = .cell∨k = .free)→(∀ z∈names,z.2≠.cell)→(y,NameKind.free)∈names
  | [],_,_,h,_,_=>by simp at h
  | (n,k') :: r,y,k,h,hk,hn=>by
    by_cases hc:(k' == NameKind.free && env.scope.kind == .function && env.kindOf n == some .cell) = true
    · have hk':k' = NameKind.free:=by
        rw [Bool.and_eq_true,Bool.and_eq_true] at hc
        simpa using hc.1.1
      subst hk'
      rw [List.map_cons] at h
      cases hy:y == n with
      | true =>
        have z:y = n:=by simpa using hy
        subst z
        exact List.mem_cons_self
      | false =>
        have h':List.lookup y ((if (NameKind.free == NameKind.free && env.scope.kind == .function && env.kindOf n == some .cell) = true then (n,NameKind.cell) else (n,NameKind.free)) :: (r.map fun (n,k)=>if (k == NameKind.free && env.scope.kind == .function && env.kindOf n == some .cell) then (n,NameKind.cell) else (n,k))) = some k:=h
        rw [if_pos hc,List.lookup_cons,hy] at h'
        exact List.mem_cons_of_mem _ (relabel_free h' hk fun z hz=>hn z (List.mem_cons_of_mem _ hz))
    · have h':List.lookup y ((if (k' == NameKind.free && env.scope.kind == .function && env.kindOf n == some .cell) = true then (n,NameKind.cell) else (n,k')) :: (r.map fun (n,k)=>if (k == NameKind.free && env.scope.kind == .function && env.kindOf n == some .cell) then (n,NameKind.cell) else (n,k))) = some k:=h
      rw [if_neg hc,List.lookup_cons] at h'
      cases hy:y == n with
      | true =>
        rw [hy] at h'
        cases h'
        have z:y = n:=by simpa using hy
        subst z
        rcases hk with e | e
        · exact absurd e (hn _ List.mem_cons_self)
        · subst e; exact List.mem_cons_self
      | false =>
        rw [hy] at h'
        exact List.mem_cons_of_mem _ (relabel_free h' hk fun z hz=>hn z (List.mem_cons_of_mem _ hz))
theorem relabel_fv {env:Env}:∀ {names:List (Str × NameKind)} {y:Str},names.lookup y = some .free→(names.map fun (n,k)=>if (k == NameKind.free && env.scope.kind == .function && env.kindOf n == some .cell) then (n,NameKind.cell) else (n,k)).lookup y = some .cell∨(names.map fun (n,k)=>if (k == NameKind.free && env.scope.kind == .function && env.kindOf n == some .cell) then (n,NameKind.cell) else (n,k)).lookup y = some .free
  | [],_,h=>by simp at h
  | (n,k') :: r,y,h=>by
    rw [List.lookup_cons] at h
    rw [List.map_cons]
    cases hy:y == n with
    | true =>
      rw [hy] at h
      cases h
      by_cases hc:(NameKind.free == NameKind.free && env.scope.kind == .function && env.kindOf n == some .cell) = true
      · refine .inl ?_
        show List.lookup y ((if (NameKind.free == NameKind.free && env.scope.kind == .function && env.kindOf n == some .cell) = true then (n,NameKind.cell) else (n,NameKind.free)) :: _) = _
        rw [if_pos hc,List.lookup_cons,hy]
      · refine .inr ?_
        show List.lookup y ((if (NameKind.free == NameKind.free && env.scope.kind == .function && env.kindOf n == some .cell) = true then (n,NameKind.cell) else (n,NameKind.free)) :: _) = _
        rw [if_neg hc,List.lookup_cons,hy]
    | false =>
      rw [hy] at h
      have ih:=relabel_fv (env:=env) h
      by_cases hc:(k' == NameKind.free && env.scope.kind == .function && env.kindOf n == some .cell) = true
      · show List.lookup y ((if (k' == NameKind.free && env.scope.kind == .function && env.kindOf n == some .cell) = true then (n,NameKind.cell) else (n,k')) :: _) = _∨List.lookup y ((if (k' == NameKind.free && env.scope.kind == .function && env.kindOf n == some .cell) = true then (n,NameKind.cell) else (n,k')) :: _) = _
        rw [if_pos hc,List.lookup_cons,hy]
        exact ih
      · show List.lookup y ((if (k' == NameKind.free && env.scope.kind == .function && env.kindOf n == some .cell) = true then (n,NameKind.cell) else (n,k')) :: _) = _∨List.lookup y ((if (k' == NameKind.free && env.scope.kind == .function && env.kindOf n == some .cell) = true then (n,NameKind.cell) else (n,k')) :: _) = _
        rw [if_neg hc,List.lookup_cons,hy]
        exact ih
end L2
namespace L2
open PySem PySem.Spec PyProof.Rows
abbrev lstObj (its:List Value) (n:Nat):Obj:={ cls:=.type "list", data:=.seq its.toArray n }
abbrev lcTests (ifs:List Expr) (env:Env):Sem Bool :=
  forIn ifs true fun c r=>if r = true then do let ok ← isTrue c env (eval c env); pure (ForInStep.yield ok) else pure (ForInStep.yield r)
def tLC (wi:TI) (js:List Nat) (tt:TT) (te:TE):TE:=fun σ H Q=>wi σ H fun J H1=>∃ W:Nat→Nat→List V→Hp→Prop,(∃ m,W 0 m [] H1)∧∀ i m ys H,W i m ys H →
  (J.stop i H∧∀ p,H p = none→Q (.ref p) (upd H p (.lst ys))) ∨
  (J.go i H∧ys.length < sizeLine∧∀ x H',J.yld i H x H'→tt (lcS σ js (some x)) H' fun b H2 =>
    if b = true then te (lcS σ js (some x)) H2 fun v H3=>∃ m',m' < m∧W (i + 1) m' (ys ++ [v]) H3 else ∃ m',m' < m∧W (i + 1) m' ys H2)
section
variable {X:Cx} {sc osc:Scope} {x:Str} {js:List Nat} {elt iter:Expr} {px pos:Pos} {ifs:List Expr} {wi:TI} {tt:TT} {te:TE}
theorem lc_loop {P:Program} {w:World} {A:Around} {R:Result→Shared→Prop} {st:Shared} {tg it acc} {cenv:Env} (Iv:Nat→Shared→Prop)
    (step:∀ k st,Iv k st→wpAny (model P w) A (pyNext it) (fun got s1=>match got with
      | none=>R (.ok .next) s1
      | some v=>wpAny (model P w) A (letOwnedTupleGo tg it v) (fun _ s2=>wpAny (model P w) A (assign tg cenv v) (fun _ s3 =>
          wpAny (model P w) A (lcTests ifs cenv) (fun ok s4=>if ok = true then wpAny (model P w) A (eval elt cenv) (fun y s5 =>
              wpAny (model P w) A (call (.builtin "list.append") [acc,y]) (fun _ s6=>∃ k',k' < k∧Iv k' s6) (notedBy (model P w) A cenv fun e z=>R (.error e) z) s5) (notedBy (model P w) A cenv fun e z=>R (.error e) z) s4
            else ∃ k',k' < k∧Iv k' s4) (notedBy (model P w) A cenv fun e z=>R (.error e) z) s3) (notedBy (model P w) A cenv fun e z=>R (.error e) z) s2) (notedBy (model P w) A cenv fun e z=>R (.error e) z) s1)
      (notedBy (model P w) A cenv fun e z=>R (.error e) z) st) (k0:Nat) (h0:Iv k0 st) :
    codeAny (model P w) A (.compLoop (.ListComp elt [⟨tg,iter,ifs,0⟩] sc pos) 0 it acc cenv) R st:=by
  refine codeAny_loop rfl Iv (fun k st hk=>?_) k0 h0
  show wpAny _ A ((compTurn (.ListComp elt [⟨tg,iter,ifs,0⟩] sc pos) 0 it acc cenv).onRaise (fun e=>do noteFrame e cenv; theTreesLotGoes e)) _ _ st
  refine wpAny_noted ?_
  rw [compTurn_list]
  refine wpAny_bind (wpAny_standAt (wpAny_bind (wpAny_mono (step k st hk) (fun got s1 h1=>?_) fun _ _ z=>z)))
  cases got with
  | none=>exact wpAny_pure h1
  | some v =>
    refine wpAny_bind (wpAny_mono h1 (fun _ s2 h2=>?_) fun _ _ z=>z)
    refine wpAny_bind (wpAny_mono h2 (fun _ s3 h3=>wpAny_bind (wpAny_mono h3 (fun ok s4 h4=>?_) fun _ _ z=>z)) fun _ _ z=>z)
    cases ok with
    | false=>exact wpAny_pure ⟨rfl,h4⟩
    | true=>exact wpAny_bind (wpAny_bind (wpAny_mono h4 (fun y s5 h5=>wpAny_bind (wpAny_mono h5 (fun _ s6 h6=>wpAny_pure (wpAny_pure ⟨rfl,h6⟩)) fun _ _ z=>z)) fun _ _ z=>z))
structure Own (X:Cx) (pins:List (Addr × Obj)) (H:Hp) (a:Addr):Prop where
  free:H a = none
  loc:a≠X.env.locals
  new:X.s₀.heap.objs.size≤a
  cel:∀ x c,X.env.cells.lookup x = some c→c≠a
  pin:∀ p∈X.pn ++ pins,p.1≠a
  fs:a ∉ X.fs
end
structure LcOkG (osc sc:Scope) (xs:List Str) (fv:List Str):Prop where
  kind:sc.kind = .function
  nocell:∀ y∈sc.names,y.2≠.cell
  names:∀ y∈sc.names,y.2 = .local→sc.names.lookup y.1 = some .local
  fr:∀ y∈sc.names,y.2 = .free→osc.names.lookup y.1 = some .cell∨osc.names.lookup y.1 = some .free
  fvs:∀ y∈fv,sc.names.lookup y = some .free∧(osc.names.lookup y = some .cell∨osc.names.lookup y = some .free)
abbrev lcG (X:Cx) (xs:List Str) (js:List Nat):List Str:=xs ++ js.map fun j=>X.N.getD j ""
abbrev lcT (σ:St) (js:List Nat) (os:List (Option V)):St:=os ++ js.map fun j=>σ.getD j none
section
variable {X:Cx} {sc osc:Scope} {xs:List Str} {js:List Nat}
theorem blk_okG {pins:List (Addr × Obj)} {σ:St} {H:Hp} {s:Shared} {fp:List Addr} {C:Addr} (I:Inv X pins σ H s) (hosc:X.env.scope = osc) (L:LcOkG osc sc xs (js.map fun j=>X.N.getD j ""))
    (f2:∀ b∈fp,FpOk X pins H b) (lt:∀ b∈fp,b < s.heap.objs.size) (hC:s.heap.objs.size≤C):(X.blk sc (clo sc.names X.env.cells []) C (lcG X xs js) s H fp).Ok where
  mod:=I.ok.mod
  kind:=L.kind
  glob:=I.ok.glob
  blt:=I.ok.blt
  above:=hC
  inj:=fun y z c h1 h2=>I.ok.inj y z c (clo_sound _ _ [] (fun _ _ e=>by simp at e) y c h1) (clo_sound _ _ [] (fun _ _ e=>by simp at e) z c h2)
  has:=fun y hy=>by
    have hy':(relabel sc X.env).names.lookup y = some .cell∨(relabel sc X.env).names.lookup y = some .free:=hy
    have hm:(y,NameKind.free)∈sc.names:=by
      rcases hy' with e | e
      · exact relabel_free e (.inl rfl) L.nocell
      · exact relabel_free e (.inr rfl) L.nocell
    have ho:X.env.kindOf y = some .cell∨X.env.kindOf y = some .free:=by
      show X.env.scope.names.lookup y = _∨X.env.scope.names.lookup y = _
      rw [hosc]
      exact L.fr _ hm rfl
    obtain ⟨c,e⟩:=I.ok.has y ho
    exact Option.isSome_iff_exists.mp (clo_has _ _ [] y hm (by rw [e]; rfl))
  cab:=fun y c h=>by cases h
  hd:=I.ok.hd
  frames:=I.ok.frames
  stk:=.inl rfl
  exf:=fun b hb=>⟨Nat.ne_of_lt (Nat.lt_of_lt_of_le (lt b hb) hC),fun y c e=>(f2 b hb).2.2.2.2.1 y c (clo_sound _ _ [] (fun _ _ e=>by simp at e) y c e)⟩
  bs:=I.bs
  bsz:=Nat.le_trans I.ok.bsz I.sz
  noex:=fun b o e hb=>by
    rcases (f2 b hb).2.2.2.1 with z | z
    · exact I.ok.noex b o e z
    · exact absurd (Nat.lt_of_lt_of_le (Heap.lt_size (I.ok.bs b o e).1) z) (Nat.lt_irrefl _)
  exfs:=fun b hb hm=>by
    rcases List.mem_cons.mp (I.stkSub b hm) with z | z
    · exact (f2 b hb).2.1 z
    · exact (f2 b hb).2.2.1 z
  funs:=I.stack
  frf:=I.stkFree
end
section
variable {X:Cx} {sc osc:Scope} {xs:List Str} {js:List Nat} {tg:Expr} {g:TG} {elt iter:Expr} {px pos:Pos} {ifs:List Expr} {wi:TI} {tt:TT} {te:TE}
theorem lc_turnG {cl:List (Str × Addr)} {C D:Addr} {s₂:Shared} {H₂:Hp} {fp:List Addr} {pl:List (Addr × Obj)} {σ0:St} {H:Hp} {s:Shared} {u:Value} {v:V} {its:List Value} {n:Nat} {o0:List (Option V)} {E:Value→Shared→Prop}
    {Ny:V→Hp→Prop} {Nn:Hp→Prop}
    (hg:PG (X.blk sc cl C (lcG X xs js) s₂ H₂ fp) tg g)
    (I:Inv (X.blk sc cl C (lcG X xs js) s₂ H₂ fp) ((D,lstObj its n) :: pl) (lcT σ0 js o0) H s) (ru:RelV v u)
    (ht:∀ (pins:List (Addr × Obj)) (s':Shared) (σ':St) (H':Hp) (Q:Bool→Hp→Prop),Inv (X.blk sc cl C (lcG X xs js) s₂ H₂ fp) pins σ' H' s'→tt σ' H' Q →
      wpAny (model X.prog X.w) X.A (lcTests ifs (compEnvC sc cl C X.env)) (TP (X.blk sc cl C (lcG X xs js) s₂ H₂ fp) pins σ' Q) (fun _ _=>False) s')
    (he:PE (X.blk sc cl C (lcG X xs js) s₂ H₂ fp) elt te)
    (hlen:its.length < sizeLine) (hD0:s₂.heap.objs.size≤D) (hDC:D≠C) (hDc:∀ y c,cl.lookup y = some c→c≠D) (hDp:∀ p∈pl,p.1≠D)
    (h:g v (lcT σ0 js o0) H fun σ2 H1=>∃ o1,σ2 = lcT σ0 js o1∧o1.length = xs.length∧tt σ2 H1 fun b H2=>if b = true then te σ2 H2 Ny else Nn H2) :
    wpAny (model X.prog X.w) X.A (assign tg (compEnvC sc cl C X.env) u) (fun _ s2 =>
      wpAny (model X.prog X.w) X.A (lcTests ifs (compEnvC sc cl C X.env)) (fun ok s3 =>
        if ok = true then wpAny (model X.prog X.w) X.A (eval elt (compEnvC sc cl C X.env)) (fun y s4 =>
          wpAny (model X.prog X.w) X.A (call (.builtin "list.append") [.ref D,y]) (fun _ s5=>∃ z y' H5 o1,o1.length = xs.length∧Ny z H5∧RelV z y'∧Inv (X.blk sc cl C (lcG X xs js) s₂ H₂ fp) ((D,lstObj (its ++ [y']) (n + 1)) :: pl) (lcT σ0 js o1) H5 s5) E s4) E s3
        else ∃ H5 o1,o1.length = xs.length∧Nn H5∧Inv (X.blk sc cl C (lcG X xs js) s₂ H₂ fp) ((D,lstObj its n) :: pl) (lcT σ0 js o1) H5 s3) E s2) E s:=by
  refine wpAny_mono (hg _ s _ H v u _ I ru h) (fun _ s2 ⟨σ6,H6,I6,o1,e1,l1,h6⟩=>?_) fun _ _ z=>False.elim z
  subst e1
  refine wpAny_mono (ht _ s2 _ _ _ I6 h6) (fun ok s3 ⟨H7,I7,q7⟩=>?_) fun _ _ z=>False.elim z
  cases ok with
  | false =>
    rw [if_neg Bool.false_ne_true] at q7 ⊢
    exact ⟨H7,o1,l1,q7,I7⟩
  | true =>
    rw [if_pos rfl] at q7 ⊢
    refine wpAny_mono (he _ s3 _ H7 _ I7 q7) (fun y s4 ⟨z,H8,I8,r8,q8⟩=>?_) fun _ _ z=>False.elim z
    obtain ⟨p1,p2,p3,p4,p5⟩:=I8.pin (D,lstObj its n) (List.mem_append_right _ List.mem_cons_self)
    have p1':s4.heap.get? D = some { cls:=.type "list", data:=.seq its.toArray n }:=p1
    refine call_meets F.slot_list_append ⟨_,p1',rfl⟩ F.entry_list_append (F.args_list_append_2 _ _) (PySem.list_append D its.toArray n y (by rw [List.size_toArray]; omega)) ⟨p1',?_⟩
    have q:=PySem.IsL.update p1' (fun a=>a.push y)
    have sz:((its.toArray.push y).size == its.toArray.size) = false:=by simp
    have e3:(s4.heap.update D (Obj.mapSeq fun a=>a.push y)).get? D = some (lstObj (its ++ [y]) (n + 1)):=by
      have q':(s4.heap.update D (Obj.mapSeq fun a=>a.push y)).get? D = some { cls:=.type "list", data:=.seq (its.toArray.push y) (if ((its.toArray.push y).size == its.toArray.size) = true then n else n + 1) }:=q
      rw [q',sz,if_neg Bool.false_ne_true]
      simp
    have I9:Inv (X.blk sc cl C (lcG X xs js) s₂ H₂ fp) pl (lcT σ0 js o1) H8 s4:=I8.pins_of fun p hp=>I8.pin p (List.mem_append_right _ (List.mem_cons_of_mem _ hp))
    have oth:∀ b o,b≠D→s4.heap.get? b = some o→(s4.heap.update D (Obj.mapSeq fun a=>a.push y)).get? b = some o:=fun b o hb e=>(Heap.get?_update_other _ _ (Ne.symm hb)).trans e
    have I10:=I9.turned (t':=s4.toks) (h':=s4.heap.update D (Obj.mapSeq fun a=>a.push y)) (it:=D) oth p2 hDC (.inr hD0) hDc (fun p hp=>hDp p hp)
    refine ⟨z,y,H8,o1,l1,q8,r8,I10.pins_of fun p hp=>?_⟩
    rcases List.mem_cons.mp hp with e | e
    · subst e
      exact ⟨e3,p2,p3,p4,fun w hw=>by cases hw⟩
    · exact I10.pin p (List.mem_append_right _ e)
theorem lc_coreG {use:Option (Value→Sem Unit)} {QQ:Value→Shared→Prop} {Fin:List V→Hp→Prop} {pins:List (Addr × Obj)} {s:Shared} {σ:St} {H:Hp} (hosc:X.env.scope = osc) (L:LcOkG osc sc xs (js.map fun j=>X.N.getD j "")) {rd:Cx→Prop} (hc:∀ sc cl C N s H fp,rd (X.blk sc cl C N s H fp)) (hi:PIr rd X tg iter wi) (hg:∀ (cl:List (Str × Addr)) (C:Addr) (s₂:Shared) (H₂:Hp) (fp:List Addr),PG (X.blk sc cl C (lcG X xs js) s₂ H₂ fp) tg g) (hjs:∀ j∈js,j < X.N.length)
    (ht:∀ (cl:List (Str × Addr)) (C:Addr) (s₂:Shared) (H₂:Hp) (fp:List Addr) (pins:List (Addr × Obj)) (s':Shared) (σ':St) (H':Hp) (Q:Bool→Hp→Prop),Inv (X.blk sc cl C (lcG X xs js) s₂ H₂ fp) pins σ' H' s'→tt σ' H' Q →
      wpAny (model X.prog X.w) X.A (lcTests ifs (compEnvC sc cl C X.env)) (TP (X.blk sc cl C (lcG X xs js) s₂ H₂ fp) pins σ' Q) (fun _ _=>False) s')
    (he:∀ (cl:List (Str × Addr)) (C:Addr) (s₂:Shared) (H₂:Hp) (fp:List Addr),PE (X.blk sc cl C (lcG X xs js) s₂ H₂ fp) elt te)
    (hs:∀ x,foldedSetIterable iter X.env x = pure x) (I:Inv X pins σ H s)
    (h:wi σ H fun J H1=>∃ W:Nat→Nat→List V→Hp→Prop,(∃ m,W 0 m [] H1)∧∀ i m ys H,W i m ys H→(J.stop i H∧Fin ys H) ∨
      (J.go i H∧ys.length < sizeLine∧∀ x H',J.yld i H x H'→∀ o0:List (Option V),o0.length = xs.length→g x (lcT σ js o0) H' fun σ2 H1=>∃ o1,σ2 = lcT σ js o1∧o1.length = xs.length∧tt σ2 H1 fun b H2 =>
        if b = true then te σ2 H2 fun v H3=>∃ m',m' < m∧W (i + 1) m' (ys ++ [v]) H3 else ∃ m',m' < m∧W (i + 1) m' ys H2))
    (hfin:∀ (D C:Addr) (s5:Shared) (H5:Hp) (ys:List V) (its:List Value) (k:Nat) (m5:Str→Option Value),Inv X pins σ H5 s5→Own X pins H5 D→Own X pins H5 C→D≠C→s5.heap.get? D = some (lstObj its k)→Vals ys its→ys.length≤sizeLine→s5.heap.Ns C m5→Fin ys H5 →
      compPost (model X.prog X.w) X.A X.xe use QQ (.ref D) C (.ok .next) s5) :
    wpAny (model X.prog X.w) X.A (comprehension (.ListComp elt [⟨tg,iter,ifs,0⟩] sc pos) sc X.env (firstIterPos [⟨tg,iter,ifs,0⟩] pos) (newList []) false (eval iter X.env) use) QQ X.xe s:=by
  have hcl:closureFor sc X.env = pure (clo sc.names X.env.cells []):=closure_eq fun y hy=>by
    have ho:X.env.kindOf y = some .cell∨X.env.kindOf y = some .free:=by
      show X.env.scope.names.lookup y = _∨X.env.scope.names.lookup y = _
      rw [hosc]
      exact L.fr _ hy rfl
    obtain ⟨c,e⟩:=I.ok.has y ho
    rw [e]; rfl
  refine wpAny_comprehension_free (use:=use) rfl hs hcl L.kind L.names (thn (hi pins s σ H _ I h) fun v s1 h1=>thn h1 fun itv s2 h2=>?_)
  obtain ⟨it,fp,tn,J,H2,e,I2,T,st2,f2,W,⟨m0,w0⟩,turn⟩:=h2
  subst e
  refine wpAny_newObj_type (wpAny_newFunctionEnv L.nocell (by intro y hy; simp at hy) (fun h₁ hns₁ hsb₁=>?_) L.kind)
  dsimp only at hns₁ hsb₁ ⊢
  generalize hG:s2.heap.push { cls:=.type "list", dict:=none,data:=.seq ([]:List Value).toArray } = G at hns₁ hsb₁ ⊢
  have hGs:G.objs.size = s2.heap.objs.size + 1:=by rw [← hG,Heap.size_push]
  have hCle:s2.heap.objs.size≤G.objs.size:=by rw [hGs]; exact Nat.le_succ _
  have hDC:s2.heap.objs.size≠G.objs.size:=by rw [hGs]; exact Nat.ne_of_lt (Nat.lt_succ_self _)
  have old:∀ b o,s2.heap.get? b = some o→h₁.get? b = some o:=fun b o e=>by
    have lt:=Heap.lt_size e
    refine hsb₁.extBut b o (Nat.ne_of_lt (Nat.lt_of_lt_of_le lt hCle)) (Heap.get?_push_of_some _ ?_)
    rw [← hG]
    exact Heap.get?_push_of_some _ e
  have hacc:h₁.get? s2.heap.objs.size = some (lstObj [] 0):=by
    refine hsb₁.extBut _ _ hDC (Heap.get?_push_of_some _ ?_)
    rw [← hG]
    exact Heap.get?_push_size _ rfl
  have lt:∀ b∈fp,b < s2.heap.objs.size:=fun b hb=>by
    obtain ⟨o,e,_⟩:=T.obj _ _ st2 b hb
    exact Heap.lt_size e
  have clS:∀ y c,(clo sc.names X.env.cells []).lookup y = some c→X.env.cells.lookup y = some c:=clo_sound _ _ [] (fun _ _ e=>by simp at e)
  have clLt:∀ y c,(clo sc.names X.env.cells []).lookup y = some c→c < s2.heap.objs.size:=fun y c e=>by
    obtain ⟨v,o,q,_⟩:=I2.cell y c (clS y c e)
    exact Heap.lt_size q
  have Bok:(X.blk sc (clo sc.names X.env.cells []) G.objs.size (lcG X xs js) s2 H2 fp).Ok:=blk_okG I2 hosc L f2 lt hCle
  have fresh:∀ a,s2.heap.objs.size≤a→H2 a = none:=fun a ha=>I2.hok.fresh ha
  have frs_lt:∀ b∈frs X.stack,b < s2.heap.objs.size:=fun b hb=>by
    rcases List.mem_cons.mp (I2.stkSub b hb) with z | z
    · rw [z]; exact I2.lt
    · refine Nat.lt_of_not_le fun q=>I2.nofs q z
  have B0:Inv (X.blk sc (clo sc.names X.env.cells []) G.objs.size (lcG X xs js) s2 H2 fp) [(s2.heap.objs.size,lstObj [] 0)] (lcT σ js (List.replicate xs.length none)) H2 { s2 with heap:=h₁,toks:=s2.toks + ([]:List (Str × Value)).length }:=by
    refine ⟨Bok,rfl,I2.bare,Un.kept old,⟨_,hns₁,fun i y v e1 e2 e3=>?_⟩,fun y c e=>?_,fresh _ hCle,fun y c e=>I2.freeC y c (clS y c e),fun p hp=>?_,I2.hok.kept old,?_⟩
    · by_cases hlt:i < xs.length
      · exfalso
        have e2'':(List.replicate xs.length (none:Option V) ++ js.map fun j=>σ.getD j none)[i]? = some (some v):=e2
        rw [List.getElem?_append_left (by rw [List.length_replicate]; exact hlt),List.getElem?_replicate,if_pos hlt] at e2''
        cases e2''
      · have e1':(js.map fun j=>X.N.getD j "")[i - xs.length]? = some y:=by
          have z:(xs ++ js.map fun j=>X.N.getD j "")[i]? = some y:=e1
          rw [List.getElem?_append_right (by omega)] at z
          exact z
        have e2':(js.map fun j=>σ.getD j none)[i - xs.length]? = some (some v):=by
          have z:(List.replicate xs.length (none:Option V) ++ js.map fun j=>σ.getD j none)[i]? = some (some v):=e2
          rw [List.getElem?_append_right (by rw [List.length_replicate]; omega),List.length_replicate] at z
          exact z
        have e1s:=e1'
        rw [List.getElem?_map] at e1' e2'
        cases hj:js[i - xs.length]? with
        | none=>rw [hj] at e1'; cases e1'
        | some j =>
          rw [hj] at e1' e2'
          have e4:X.N.getD j "" = y:=Option.some.inj e1'
          have e5:σ.getD j none = some v:=Option.some.inj e2'
          have hjl:=hjs j (List.mem_of_getElem? hj)
          have e6:X.N[j]? = some y:=by
            rw [List.getD_eq_getElem?_getD,List.getElem?_eq_getElem hjl] at e4
            rw [List.getElem?_eq_getElem hjl]
            exact congrArg some e4
          have e7:σ[j]? = some (some v):=by
            rw [List.getD_eq_getElem?_getD] at e5
            cases hq:σ[j]? with
            | none=>rw [hq] at e5; cases e5
            | some w=>rw [hq] at e5; exact congrArg some e5
          obtain ⟨hm0,hk⟩:=L.fvs y (List.mem_of_getElem? e1s)
          have hm:(y,NameKind.free)∈sc.names:=PySem.mem_of_lookup hm0
          have hk':X.env.kindOf y = some .cell∨X.env.kindOf y = some .free:=by
            show X.env.scope.names.lookup y = _∨X.env.scope.names.lookup y = _
            rw [hosc]; exact hk
          have hv:Vis X.env.scope y:=by rcases hk' with z | z; exact .inr (.inl z); exact .inr (.inr z)
          obtain ⟨m,hn,hl⟩:=I2.loc
          obtain ⟨u,r,l⟩:=hl j y v e6 e7 hv
          refine ⟨u,r,.inr ?_⟩
          rcases l with ⟨z,_⟩ | ⟨_,c,hc1,hc2⟩
          · rw [z] at hk'; rcases hk' with q | q <;> cases q
          · have hs2:((clo sc.names X.env.cells []).lookup y).isSome = true:=clo_has _ _ [] y hm (by rw [hc1]; rfl)
            obtain ⟨c',hc'⟩:=Option.isSome_iff_exists.mp hs2
            have hcc:c' = c:=by have:=clS y c' hc'; rw [hc1] at this; exact (Option.some.inj this).symm
            subst hcc
            obtain ⟨o,ho,hd⟩:=hc2
            exact ⟨relabel_fv hm0,c',hc',o,old _ o ho,hd⟩
    · obtain ⟨v,o,q,d⟩:=I2.cell y c (clS y c e)
      exact ⟨v,o,old _ o q,d⟩
    · have e:p = (s2.heap.objs.size,lstObj [] 0):=by simpa using hp
      subst e
      exact ⟨hacc,fresh _ (Nat.le_refl _),hDC,fun z=>Nat.lt_irrefl _ (frs_lt _ z),fun w hw=>by cases hw⟩
    · show _ = (lcG X xs js).length
      simp
  have stat:∀ {H':Hp} {pl:List (Addr × Obj)},(∀ b∈fp,H' b = none)→(∀ p∈pl,p.1 = s2.heap.objs.size)→∀ b∈fp,FpOk (X.blk sc (clo sc.names X.env.cells []) G.objs.size (lcG X xs js) s2 H2 fp) pl H' b:=fun hn hp b hb =>
    ⟨hn b hb,(Bok.exf b hb).1,Bok.exfs b hb,.inl hb,(Bok.exf b hb).2,fun p hm=>by
      rw [hp p (by simpa using hm)]
      exact Ne.symm (Nat.ne_of_lt (lt b hb))⟩
  have loop:∀ s3:Shared,s3 = { s2 with heap:=h₁,toks:=s2.toks + ([]:List (Str × Value)).length } →
      codeAny (model X.prog X.w) X.A (.compLoop (.ListComp elt [⟨tg,iter,ifs,0⟩] sc pos) 0 (.ref it) (.ref s2.heap.objs.size) (compEnvC sc (clo sc.names X.env.cells []) G.objs.size X.env))
        (compPost (model X.prog X.w) X.A X.xe use QQ (.ref s2.heap.objs.size) G.objs.size) s3:=by
    rintro s3 rfl
    refine lc_loop (fun n s'=>∃ i ys its k o0 H',o0.length = xs.length∧Inv (X.blk sc (clo sc.names X.env.cells []) G.objs.size (lcG X xs js) s2 H2 fp) [(s2.heap.objs.size,lstObj its k)] (lcT σ js o0) H' s'∧tn i s'.heap∧(∀ b∈fp,H' b = none)∧Vals ys its∧ys.length≤sizeLine∧W i n ys H') ?_ m0
      ⟨0,[],[],0,List.replicate xs.length none,H2,List.length_replicate,B0,T.keep _ _ _ st2 fun b _ o e=>old b o e,fun b hb=>(f2 b hb).1,.nil,Nat.zero_le _,w0⟩
    rintro n s4 ⟨i,ys,its,k,o0,H4,lo0,I4,st4,fr4,vs4,z4,w4⟩
    have one:∀ p∈[(s2.heap.objs.size,lstObj its k)],p.1 = s2.heap.objs.size:=fun p hp=>by
      have e:p = (s2.heap.objs.size,lstObj its k):=by simpa using hp
      rw [e]
    rcases turn i n ys H4 w4 with ⟨stop,qn⟩ | ⟨go,zl,step⟩
    · refine thn (T.done (X.blk sc (clo sc.names X.env.cells []) G.objs.size (lcG X xs js) s2 H2 fp) rfl rfl rfl (hc _ _ _ _ _ _ _) i _ s4 _ H4 _ I4 (stat fr4 one) st4 stop) fun r s5 ⟨hr,I5⟩=>?_
      subst hr
      obtain ⟨m5,hn5,_⟩:=I5.loc
      obtain ⟨p1,p2,p3,p4,p5⟩:=I5.pin (s2.heap.objs.size,lstObj its k) (by simp)
      have ch:∀ b∈fp,(b∈X.ex∨X.s₀.heap.objs.size≤b)∧b≠X.env.locals∧(∀ x c,X.env.cells.lookup x = some c→c≠b)∧∀ p∈X.pn ++ pins,p.1≠b:=fun b hb =>
        ⟨(f2 b hb).2.2.2.1,(f2 b hb).2.1,(f2 b hb).2.2.2.2.1,(f2 b hb).2.2.2.2.2⟩
      have J1:Inv X pins σ H4 s5:=I2.call' I5.os I5.base I5.hok I5.bare ch
      have ltp:∀ p∈X.pn ++ pins,p.1 < s2.heap.objs.size:=fun p hp=>Heap.lt_size (I2.pin p hp).1
      have ltc:∀ y c,X.env.cells.lookup y = some c→c < s2.heap.objs.size:=fun y c e=>by
        obtain ⟨v,o,q,_⟩:=I2.cell y c e
        exact Heap.lt_size q
      have s0:X.s₀.heap.objs.size≤s2.heap.objs.size:=I2.sz
      have own:∀ a,s2.heap.objs.size≤a→H4 a = none→Own X pins H4 a:=fun a ha hn=>⟨hn,Ne.symm (Nat.ne_of_lt (Nat.lt_of_lt_of_le I2.lt ha)),Nat.le_trans s0 ha,fun y c e=>Nat.ne_of_lt (Nat.lt_of_lt_of_le (ltc y c e) ha),
        fun p hp=>Nat.ne_of_lt (Nat.lt_of_lt_of_le (ltp p hp) ha),I2.nofs ha⟩
      exact hfin _ _ s5 H4 ys its k m5 J1 (own _ (Nat.le_refl _) p2) (own _ hCle I5.free) hDC p1 vs4 z4 hn5 qn
    · refine thn (T.item (X.blk sc (clo sc.names X.env.cells []) G.objs.size (lcG X xs js) s2 H2 fp) rfl rfl rfl (hc _ _ _ _ _ _ _) i _ s4 _ H4 _ I4 (stat fr4 one) st4 go) fun r s5 ⟨u,hr,h5⟩=>?_
      subst hr
      refine wpAny_mono h5 (fun _ s5' ⟨v,H6,I6,r6,y6,st6,fr6⟩=>?_) fun _ _ z=>z
      have I7:=I6.pinned (stat fr6 one) (T.obj _ _ st6)
      have ndis:∀ p∈pinsAt fp s5'.heap,p.1≠s2.heap.objs.size:=fun p hp=>Nat.ne_of_lt (lt _ (of_pinsAt hp).1)
      have lenE:=vs4.length
      have back:∀ {its':List Value} {k':Nat} {H7:Hp} {s7:Shared} {ys':List V} {m':Nat} {o1:List (Option V)},o1.length = xs.length→Inv (X.blk sc (clo sc.names X.env.cells []) G.objs.size (lcG X xs js) s2 H2 fp) ((s2.heap.objs.size,lstObj its' k') :: pinsAt fp s5'.heap) (lcT σ js o1) H7 s7 →
          Vals ys' its'→ys'.length≤sizeLine→m' < n→W (i + 1) m' ys' H7→∃ m,m < n∧∃ i ys its k o0 H',o0.length = xs.length∧Inv (X.blk sc (clo sc.names X.env.cells []) G.objs.size (lcG X xs js) s2 H2 fp) [(s2.heap.objs.size,lstObj its k)] (lcT σ js o0) H' s7∧tn i s7.heap∧(∀ b∈fp,H' b = none)∧Vals ys its∧ys.length≤sizeLine∧W i m ys H':=by
        intro its' k' H7 s7 ys' m' o1 l1 J vs' z' hm w'
        refine ⟨m',hm,i + 1,ys',its',k',o1,H7,l1,J.pins_of fun p hp=>J.pin p (List.mem_append_right _ (by simp at hp; simp [hp])),?_,?_,vs',z',w'⟩
        · exact T.keep _ _ _ st6 fun b hb o e=>(J.pin (b,o) (List.mem_append_right _ (List.mem_cons_of_mem _ (mem_pinsAt hb e)))).1
        · intro b hb
          obtain ⟨o,e,_⟩:=T.obj _ _ st6 b hb
          exact (J.pin (b,o) (List.mem_append_right _ (List.mem_cons_of_mem _ (mem_pinsAt hb e)))).2.1
      refine wpAny_mono (lc_turnG (X:=X) (sc:=sc) (xs:=xs) (js:=js) (tg:=tg) (g:=g) (elt:=elt) (ifs:=ifs) (tt:=tt) (te:=te) (D:=s2.heap.objs.size) (its:=its) (n:=k) (pl:=pinsAt fp s5'.heap)
        (hg _ _ _ _ _) I7 r6 (ht _ _ _ _ _) (he _ _ _ _ _) (by omega) (Nat.le_refl _) hDC (fun y c e=>Nat.ne_of_lt (clLt y c e)) ndis (step v H6 y6 o0 lo0)) (fun _ s6 h6=>?_) fun _ _ z=>z
      refine wpAny_mono h6 (fun ok s7 h7=>?_) fun _ _ z=>z
      cases ok with
      | false =>
        rw [if_neg Bool.false_ne_true] at h7 ⊢
        obtain ⟨H7,o1,l1,⟨m',hm,w'⟩,J⟩:=h7
        exact back l1 J vs4 z4 hm w'
      | true =>
        rw [if_pos rfl] at h7 ⊢
        refine wpAny_mono h7 (fun y s8 h8=>?_) fun _ _ z=>z
        refine wpAny_mono h8 (fun _ s9 h9=>?_) fun _ _ z=>z
        obtain ⟨z,y',H9,o1,l1,⟨m',hm,w'⟩,rz,J⟩:=h9
        refine back l1 J (vs4.append (.cons rz .nil)) ?_ hm w'
        rw [List.length_append,List.length_singleton]
        omega
  exact codeAny_compStart_list (loop _ rfl) (T.self _ 0 _ _ _ (T.keep _ _ _ st2 fun b _ o e=>old b o e) (loop _ rfl))
end
section
variable {X:Cx} {sc osc:Scope} {x:Str} {js:List Nat} {elt iter:Expr} {px pos:Pos} {ifs:List Expr} {wi:TI} {tt:TT} {te:TE}
theorem lc_core {use:Option (Value→Sem Unit)} {QQ:Value→Shared→Prop} {Fin:List V→Hp→Prop} {pins:List (Addr × Obj)} {s:Shared} {σ:St} {H:Hp} (hosc:X.env.scope = osc) (L:LcOk osc sc x (js.map fun j=>X.N.getD j "")) {rd:Cx→Prop} (hc:∀ sc cl C N s H fp,rd (X.blk sc cl C N s H fp)) (hi:PIr rd X (.Name x px) iter wi) (hjs:∀ j∈js,j < X.N.length)
    (ht:∀ (cl:List (Str × Addr)) (C:Addr) (s₂:Shared) (H₂:Hp) (fp:List Addr) (pins:List (Addr × Obj)) (s':Shared) (σ':St) (H':Hp) (Q:Bool→Hp→Prop),Inv (X.blk sc cl C (lcN X x js) s₂ H₂ fp) pins σ' H' s'→tt σ' H' Q →
      wpAny (model X.prog X.w) X.A (lcTests ifs (compEnvC sc cl C X.env)) (TP (X.blk sc cl C (lcN X x js) s₂ H₂ fp) pins σ' Q) (fun _ _=>False) s')
    (he:∀ (cl:List (Str × Addr)) (C:Addr) (s₂:Shared) (H₂:Hp) (fp:List Addr),PE (X.blk sc cl C (lcN X x js) s₂ H₂ fp) elt te)
    (hs:∀ x,foldedSetIterable iter X.env x = pure x) (I:Inv X pins σ H s)
    (h:wi σ H fun J H1=>∃ W:Nat→Nat→List V→Hp→Prop,(∃ m,W 0 m [] H1)∧∀ i m ys H,W i m ys H→(J.stop i H∧Fin ys H) ∨
      (J.go i H∧ys.length < sizeLine∧∀ x H',J.yld i H x H'→tt (lcS σ js (some x)) H' fun b H2 =>
        if b = true then te (lcS σ js (some x)) H2 fun v H3=>∃ m',m' < m∧W (i + 1) m' (ys ++ [v]) H3 else ∃ m',m' < m∧W (i + 1) m' ys H2))
    (hfin:∀ (D C:Addr) (s5:Shared) (H5:Hp) (ys:List V) (its:List Value) (k:Nat) (m5:Str→Option Value),Inv X pins σ H5 s5→Own X pins H5 D→Own X pins H5 C→D≠C→s5.heap.get? D = some (lstObj its k)→Vals ys its→ys.length≤sizeLine→s5.heap.Ns C m5→Fin ys H5 →
      compPost (model X.prog X.w) X.A X.xe use QQ (.ref D) C (.ok .next) s5) :
    wpAny (model X.prog X.w) X.A (comprehension (.ListComp elt [⟨.Name x px,iter,ifs,0⟩] sc pos) sc X.env (firstIterPos [⟨.Name x px,iter,ifs,0⟩] pos) (newList []) false (eval iter X.env) use) QQ X.xe s:=by
  have e:(fun (J:It) (H1:Hp)=>∃ W:Nat→Nat→List V→Hp→Prop,(∃ m,W 0 m [] H1)∧∀ i m ys H,W i m ys H→(J.stop i H∧Fin ys H) ∨
      (J.go i H∧ys.length < sizeLine∧∀ x H',J.yld i H x H'→tt (lcS σ js (some x)) H' fun b H2 =>
        if b = true then te (lcS σ js (some x)) H2 fun v H3=>∃ m',m' < m∧W (i + 1) m' (ys ++ [v]) H3 else ∃ m',m' < m∧W (i + 1) m' ys H2)) =
      (fun (J:It) (H1:Hp)=>∃ W:Nat→Nat→List V→Hp→Prop,(∃ m,W 0 m [] H1)∧∀ i m ys H,W i m ys H→(J.stop i H∧Fin ys H) ∨
      (J.go i H∧ys.length < sizeLine∧∀ y H',J.yld i H y H'→∀ o0:List (Option V),o0.length = [x].length→gName 0 y (lcT σ js o0) H' fun σ2 H1=>∃ o1,σ2 = lcT σ js o1∧o1.length = [x].length∧tt σ2 H1 fun b H2 =>
        if b = true then te σ2 H2 fun v H3=>∃ m',m' < m∧W (i + 1) m' (ys ++ [v]) H3 else ∃ m',m' < m∧W (i + 1) m' ys H2)):=by
    funext J H1
    refine propext ⟨fun ⟨W,w0,w1⟩=>⟨W,w0,fun i m ys H hw=>?_⟩,fun ⟨W,w0,w1⟩=>⟨W,w0,fun i m ys H hw=>?_⟩⟩
    · rcases w1 i m ys H hw with a | ⟨a,b,c⟩
      · exact .inl a
      · refine .inr ⟨a,b,fun y H' hy o0 ho=>?_⟩
        match o0,ho with
        | [o],_=>exact ⟨[some y],rfl,rfl,c y H' hy⟩
    · rcases w1 i m ys H hw with a | ⟨a,b,c⟩
      · exact .inl a
      · refine .inr ⟨a,b,fun y H' hy=>?_⟩
        obtain ⟨o1,e1,e2,e3⟩:=c y H' hy [none] rfl
        exact e3
  rw [e] at h
  exact lc_coreG (xs:=[x]) (g:=gName 0) hosc ⟨L.kind,L.nocell,L.names,L.fr,L.fvs⟩ hc hi (fun cl C s₂ H₂ fp=>pg_name (X:=X.blk sc cl C (lcG X [x] js) s₂ H₂ fp) L.nd rfl (.inl (lookup_relabel_local L.hx)) (.inr (lookup_relabel_local L.hx))) hjs ht he hs I h hfin
theorem pe_lcTr (hosc:X.env.scope = osc) (L:LcOk osc sc x (js.map fun j=>X.N.getD j "")) {rd:Cx→Prop} (hc:∀ sc cl C N s H fp,rd (X.blk sc cl C N s H fp)) (hi:PIr rd X (.Name x px) iter wi) (hjs:∀ j∈js,j < X.N.length)
    (ht:∀ (cl:List (Str × Addr)) (C:Addr) (s₂:Shared) (H₂:Hp) (fp:List Addr) (pins:List (Addr × Obj)) (s':Shared) (σ':St) (H':Hp) (Q:Bool→Hp→Prop),Inv (X.blk sc cl C (lcN X x js) s₂ H₂ fp) pins σ' H' s'→tt σ' H' Q →
      wpAny (model X.prog X.w) X.A (lcTests ifs (compEnvC sc cl C X.env)) (TP (X.blk sc cl C (lcN X x js) s₂ H₂ fp) pins σ' Q) (fun _ _=>False) s')
    (he:∀ (cl:List (Str × Addr)) (C:Addr) (s₂:Shared) (H₂:Hp) (fp:List Addr),PE (X.blk sc cl C (lcN X x js) s₂ H₂ fp) elt te)
    (hs:∀ x,foldedSetIterable iter X.env x = pure x:=by intro _; rfl) :
    PE X (.ListComp elt [⟨.Name x px,iter,ifs,0⟩] sc pos) (tLC wi js tt te):=by
  intro pins s σ H Q I h
  rw [eval_ListComp]
  refine lc_core (use:=none) (Fin:=fun ys H=>∀ p,H p = none→Q (.ref p) (upd H p (.lst ys))) hosc L hc hi hjs ht he hs I h fun D C s5 H5 ys its k m5 J oD oC hDC p1 vs z hn fin=>?_
  refine ⟨m5,hn,fun h' hsb=>?_⟩
  have J2:Inv X pins σ H5 { s5 with heap:=h',toks:=s5.toks }:=J.turned (it:=C) (fun b o hb e=>hsb.extBut b o hb e) oC.free oC.loc (.inr oC.new) oC.cel oC.pin
  have p1':h'.get? D = some (lstObj its k):=hsb.extBut _ _ hDC p1
  have J3:Inv X pins σ (upd H5 D (.lst ys)) { s5 with heap:=h',toks:=s5.toks }:=J2.track oD.free oD.loc oD.new oD.cel oD.pin ⟨z,its,k,vs,p1'⟩
  exact ⟨.ref D,_,J3,rfl,fin D oD.free⟩
theorem pe_lcT (hosc:X.env.scope = osc) (L:LcOk osc sc x (js.map fun j=>X.N.getD j "")) (hc:X.calm = true) (hi:PI X (.Name x px) iter wi) (hjs:∀ j∈js,j < X.N.length)
    (ht:∀ (cl:List (Str × Addr)) (C:Addr) (s₂:Shared) (H₂:Hp) (fp:List Addr) (pins:List (Addr × Obj)) (s':Shared) (σ':St) (H':Hp) (Q:Bool→Hp→Prop),Inv (X.blk sc cl C (lcN X x js) s₂ H₂ fp) pins σ' H' s'→tt σ' H' Q →
      wpAny (model X.prog X.w) X.A (lcTests ifs (compEnvC sc cl C X.env)) (TP (X.blk sc cl C (lcN X x js) s₂ H₂ fp) pins σ' Q) (fun _ _=>False) s')
    (he:∀ (cl:List (Str × Addr)) (C:Addr) (s₂:Shared) (H₂:Hp) (fp:List Addr),PE (X.blk sc cl C (lcN X x js) s₂ H₂ fp) elt te)
    (hs:∀ x,foldedSetIterable iter X.env x = pure x:=by intro _; rfl) :
    PE X (.ListComp elt [⟨.Name x px,iter,ifs,0⟩] sc pos) (tLC wi js tt te) :=
  pe_lcTr hosc L (rd:=Calm) (fun _ _ _ _ _ _ _=>hc) hi hjs ht he hs
def sLC (i:Nat) (wi:TI) (js:List Nat) (tt:TT) (te:TE):TS:=fun D σ H=>tLC wi js tt te σ H fun v H1=>D.nx (σ.set i (some v)) H1
theorem ps_setLC {i:Nat} {y:Str} {py spos:Pos} (hN:X.N.Nodup) (hy:X.N[i]? = some y) (hl:Loc X.env.scope y) (hf:X.fn y = true∨X.env.scope.names.lookup y = some .local)
    (hosc:X.env.scope = osc) (L:LcOk osc sc x (js.map fun j=>X.N.getD j "")) (hc:X.calm = true) (hi:PI X (.Name x px) iter wi) (hjs:∀ j∈js,j < X.N.length)
    (ht:∀ (cl:List (Str × Addr)) (C:Addr) (s₂:Shared) (H₂:Hp) (fp:List Addr) (pins:List (Addr × Obj)) (s':Shared) (σ':St) (H':Hp) (Q:Bool→Hp→Prop),Inv (X.blk sc cl C (lcN X x js) s₂ H₂ fp) pins σ' H' s'→tt σ' H' Q →
      wpAny (model X.prog X.w) X.A (lcTests ifs (compEnvC sc cl C X.env)) (TP (X.blk sc cl C (lcN X x js) s₂ H₂ fp) pins σ' Q) (fun _ _=>False) s')
    (he:∀ (cl:List (Str × Addr)) (C:Addr) (s₂:Shared) (H₂:Hp) (fp:List Addr),PE (X.blk sc cl C (lcN X x js) s₂ H₂ fp) elt te)
    (hsw:swapsWith (.ListComp elt [⟨.Name x px,iter,ifs,0⟩] sc pos) (some (.Name y py)) spos.line X.env = pure true) (hs:∀ x,foldedSetIterable iter X.env x = pure x:=by intro _; rfl) :
    PS X (.Assign [.Name y py] (.ListComp elt [⟨.Name x px,iter,ifs,0⟩] sc pos) spos) (sLC i wi js tt te):=by
  intro pins s σ H D I h
  rw [exec_Assign_Name_used _ _ _ _ hsw]
  refine wpAny_bind (wpAny_standAt (wpAny_bind ?_))
  show wpAny _ _ (do let _ ← comprehension (.ListComp elt [⟨.Name x px,iter,ifs,0⟩] sc pos) sc X.env _ (newList []) false (eval iter X.env) (some (assign (.Name y py) X.env))) _ _ s
  have pg:=pg_name (X:=X) (i:=i) (x:=y) (pos:=py) hN hy hl hf
  refine wpAny_bind (wpAny_mono (lc_core (use:=some (assign (.Name y py) X.env)) (QQ:=fun _ z=>SP X pins D .next z) (Fin:=fun ys H=>∀ p,H p = none→D.nx (σ.set i (some (.ref p))) (upd H p (.lst ys))) hosc L (rd:=Calm) (fun _ _ _ _ _ _ _=>hc) hi hjs ht he hs I h fun A C s5 H5 ys its k m5 J oD oC hDC p1 vs z hn fin=>?_) (fun _ z hq=>wpAny_pure (wpAny_pure hq)) fun _ _ e=>e)
  have J1:Inv X pins σ (upd H5 A (.lst ys)) s5:=J.track oD.free oD.loc oD.new oD.cel oD.pin ⟨z,its,k,vs,p1⟩
  obtain ⟨oc,es,ep,hC,hd,hr⟩:=hn
  have nocell:∀ v,oc.data≠.cell v:=fun v q=>by rw [hd] at q; cases q
  have hCA:C≠A:=Ne.symm hDC
  have fC:(upd H5 A (.lst ys)) C = none:=by rw [upd_ne hCA]; exact oC.free
  have J2:Inv X (pins ++ [(C,oc)]) σ (upd H5 A (.lst ys)) s5:=J1.pins_of fun p hp=>(List.mem_append.mp hp).elim (fun q=>J1.pin p (List.mem_append_right _ q)) fun q=>by
    have e:p = (C,oc):=by simpa using q
    subst e
    exact ⟨hC,fC,oC.loc,oC.fs,nocell⟩
  refine wpAny_mono (pg _ s5 σ _ (.ref A) (.ref A) (fun σ6 H6=>σ6 = σ.set i (some (.ref A))∧H6 = upd H5 A (.lst ys)) J2 rfl ⟨rfl,rfl⟩) (fun _ s6 ⟨σ6,H6,I6,e1,e2⟩=>?_) fun _ _ e=>e
  subst e1 e2
  obtain ⟨c1,c2,_⟩:=I6.pin (C,oc) (List.mem_append_right _ (List.mem_append_right _ (by simp)))
  refine ⟨m5,⟨oc,es,ep,c1,hd,hr⟩,fun h' hsb=>?_⟩
  have J3:Inv X pins (σ.set i (some (.ref A))) (upd H5 A (.lst ys)) s6:=I6.pins_of fun p hp=>I6.pin p (List.mem_append_right _ (List.mem_append_left _ hp))
  have J4:Inv X pins (σ.set i (some (.ref A))) (upd H5 A (.lst ys)) { s6 with heap:=h',toks:=s6.toks }:=J3.turned (it:=C) (fun b o hb e=>hsb.extBut b o hb e) c2 oC.loc (.inr oC.new) oC.cel oC.pin
  exact ⟨_,_,J4,fin A oD.free⟩
end
end L2
namespace L2
open PySem PySem.Spec PyProof.Rows
section
variable {X:Cx}
def tYes:TT:=fun _ H Q=>Q true H
theorem pe_lc0 {sc osc:Scope} {x:Str} {js:List Nat} {elt iter:Expr} {px pos:Pos} {wi:TI} {te:TE} (hosc:X.env.scope = osc) (L:LcOk osc sc x (js.map fun j=>X.N.getD j "")) (hc:X.calm = true) (hi:PI X (.Name x px) iter wi) (hjs:∀ j∈js,j < X.N.length)
    (he:∀ (cl:List (Str × Addr)) (C:Addr) (s₂:Shared) (H₂:Hp) (fp:List Addr),PE (X.blk sc cl C (lcN X x js) s₂ H₂ fp) elt te)
    (hs:∀ x,foldedSetIterable iter X.env x = pure x:=by intro _; rfl) :
    PE X (.ListComp elt [⟨.Name x px,iter,[],0⟩] sc pos) (tLC wi js tYes te) :=
  pe_lcT hosc L hc hi hjs (fun cl C s₂ H₂ fp pins s' σ' H' Q I h=>wpAny_pure ⟨H',I,h⟩) he hs
theorem lc_list {K:PySem.W.Frag} {a:Addr} {xs:List V} {σ:St} {js:List Nat} {tt:TT} {te:TE} {H:Hp} {Qf:Addr→Hp→List V→Prop} (Pv:Nat→List V→Hp→Prop) (h0:Pv 0 [] H) (hz:xs.length≤sizeLine)
    (hl:∀ i ys H,i≤xs.length→Pv i ys H→SqL K H a xs∧ys.length≤i)
    (hs:∀ i x ys H,xs[i]? = some x→Pv i ys H→tt (lcS σ js (some x)) H fun b H2=>if b = true then te (lcS σ js (some x)) H2 fun v H3=>Pv (i + 1) (ys ++ [v]) H3 else Pv (i + 1) ys H2)
    (mt:∀ σ H Q Q',(∀ b H1,Q b H1→Q' b H1)→tt σ H Q→tt σ H Q') (me:∀ σ H Q Q',(∀ v H1,Q v H1→Q' v H1)→te σ H Q→te σ H Q')
    (hd:∀ ys H p,Pv xs.length ys H→H p = none→Qf p H ys) :
    ∃ W:Nat→Nat→List V→Hp→Prop,(∃ m,W 0 m [] H)∧∀ i m ys H,W i m ys H →
      ((Itl K a).stop i H∧∀ p,H p = none→Qf p H ys) ∨
      ((Itl K a).go i H∧ys.length < sizeLine∧∀ x H',(Itl K a).yld i H x H'→tt (lcS σ js (some x)) H' fun b H2 =>
        if b = true then te (lcS σ js (some x)) H2 fun v H3=>∃ m',m' < m∧W (i + 1) m' (ys ++ [v]) H3 else ∃ m',m' < m∧W (i + 1) m' ys H2):=by
  refine ⟨fun i m ys H=>m = xs.length - i∧i≤xs.length∧Pv i ys H,⟨xs.length,by simp,Nat.zero_le _,h0⟩,?_⟩
  rintro i m ys H ⟨rfl,hi,p⟩
  obtain ⟨q,hy⟩:=hl i ys H hi p
  by_cases hlt:i < xs.length
  · refine .inr ⟨⟨xs,xs[i],q,by simp [hlt]⟩,by omega,fun x H' y=>?_⟩
    obtain ⟨e,y⟩:=y
    subst e
    refine mt _ _ _ _ (fun b H2 h2=>?_) (hs i x ys _ (y xs q) p)
    cases b with
    | true =>
      rw [if_pos rfl] at h2 ⊢
      exact me _ _ _ _ (fun v H3 h3=>⟨_,by omega,rfl,hlt,h3⟩) h2
    | false =>
      rw [if_neg Bool.false_ne_true] at h2 ⊢
      exact ⟨_,by omega,rfl,hlt,h2⟩
  · have e:i = xs.length:=by omega
    subst e
    exact .inl ⟨⟨xs,q,Nat.le_refl _⟩,fun pp hp=>hd ys H pp p hp⟩
theorem lc_tup {K:PySem.W.Frag} {a:Addr} {xs:List V} {σ:St} {js:List Nat} {tt:TT} {te:TE} {H:Hp} {Qf:Addr→Hp→List V→Prop} (Pv:Nat→List V→Hp→Prop) (h0:Pv 0 [] H) (hz:xs.length≤sizeLine)
    (hl:∀ i ys H,i≤xs.length→Pv i ys H→SqT K H a xs∧ys.length≤i)
    (hs:∀ i x ys H,xs[i]? = some x→Pv i ys H→tt (lcS σ js (some x)) H fun b H2=>if b = true then te (lcS σ js (some x)) H2 fun v H3=>Pv (i + 1) (ys ++ [v]) H3 else Pv (i + 1) ys H2)
    (mt:∀ σ H Q Q',(∀ b H1,Q b H1→Q' b H1)→tt σ H Q→tt σ H Q') (me:∀ σ H Q Q',(∀ v H1,Q v H1→Q' v H1)→te σ H Q→te σ H Q')
    (hd:∀ ys H p,Pv xs.length ys H→H p = none→Qf p H ys) :
    ∃ W:Nat→Nat→List V→Hp→Prop,(∃ m,W 0 m [] H)∧∀ i m ys H,W i m ys H →
      ((Itt K a).stop i H∧∀ p,H p = none→Qf p H ys) ∨
      ((Itt K a).go i H∧ys.length < sizeLine∧∀ x H',(Itt K a).yld i H x H'→tt (lcS σ js (some x)) H' fun b H2 =>
        if b = true then te (lcS σ js (some x)) H2 fun v H3=>∃ m',m' < m∧W (i + 1) m' (ys ++ [v]) H3 else ∃ m',m' < m∧W (i + 1) m' ys H2):=by
  refine ⟨fun i m ys H=>m = xs.length - i∧i≤xs.length∧Pv i ys H,⟨xs.length,by simp,Nat.zero_le _,h0⟩,?_⟩
  rintro i m ys H ⟨rfl,hi,p⟩
  obtain ⟨q,hy⟩:=hl i ys H hi p
  by_cases hlt:i < xs.length
  · refine .inr ⟨⟨xs,xs[i],q,by simp [hlt]⟩,by omega,fun x H' y=>?_⟩
    obtain ⟨e,y⟩:=y
    subst e
    refine mt _ _ _ _ (fun b H2 h2=>?_) (hs i x ys _ (y xs q) p)
    cases b with
    | true =>
      rw [if_pos rfl] at h2 ⊢
      exact me _ _ _ _ (fun v H3 h3=>⟨_,by omega,rfl,hlt,h3⟩) h2
    | false =>
      rw [if_neg Bool.false_ne_true] at h2 ⊢
      exact ⟨_,by omega,rfl,hlt,h2⟩
  · have e:i = xs.length:=by omega
    subst e
    exact .inl ⟨⟨xs,q,Nat.le_refl _⟩,fun pp hp=>hd ys H pp p hp⟩
theorem idxOf_spec {x:V}:∀ {xs:List V} {us:List Value},Vals xs us→xs.all flatV = true→∀ {j:Nat},xs.findIdx? (fun y=>eqV y x) = some j →
    ∃ hj:j < us.length,eqU x us[j] = true∧∀ m (hm:m < us.length),m < j→eqU x us[m] = false
  | _,_,.nil,_,j,h=>by simp at h
  | y :: xs,u :: us,.cons r t,f,j,h=>by
    rw [List.all_cons,Bool.and_eq_true] at f
    rw [List.findIdx?_cons] at h
    by_cases hy:eqV y x = true
    · rw [if_pos hy] at h
      cases h
      refine ⟨by simp,?_,fun m hm hlt=>absurd hlt (Nat.not_lt_zero _)⟩
      show eqU x u = true
      rw [eqU_of r f.1]; exact hy
    · rw [if_neg hy] at h
      cases hq:xs.findIdx? (fun y=>eqV y x) with
      | none=>rw [hq] at h; cases h
      | some k =>
        rw [hq] at h
        have e:k + 1 = j:=Option.some.inj h
        subst e
        obtain ⟨hk,h1,h2⟩:=idxOf_spec t f.2 hq
        refine ⟨by rw [List.length_cons]; omega,h1,fun m hm hlt=>?_⟩
        cases m with
        | zero =>
          show eqU x u = false
          rw [eqU_of r f.1]; exact Bool.eq_false_iff.mpr hy
        | succ m=>exact h2 m (by rw [List.length_cons] at hm; omega) (by omega)
def rIndex (K:PySem.W.Frag):V→List V→Hp→VK→Prop:=fun x vs H Q=>∃ l xs y j,x = .ref l∧vs = [y]∧SqL K H l xs∧flatV y = true∧xs.all flatV = true∧xs.findIdx? (fun z=>eqV z y) = some j∧Q (.int (j:Nat)) H
theorem mt_index:MtM X "list.index" (rIndex X.K):=by
  intro pins s σ H x vs v us Q I rx rv h
  obtain ⟨l,xs,y,j,rfl,rfl,hq,fy,fs,hj,q⟩:=h
  cases rx
  obtain ⟨u,rfl,ru⟩:=rv.one
  obtain ⟨its,r,⟨o,n,e,hc,hd,hdat⟩,hz⟩:=I.list hq
  obtain ⟨cls,dd,dt,sl⟩:=o
  have hc':cls = .type "list" := hc
  have hdat':dt = .seq its.toArray n:=hdat
  subst hc' hdat'
  obtain ⟨h1,h2,h3⟩:=idxOf_spec r fs hj
  have hl:=r.length
  have hn:=line63
  refine call_meets F.slot_list_index ⟨_,e,rfl⟩ F.entry_list_index (F.args_list_index_2 _ _) (SeqAt.list_indexAt l its.toArray n dd sl u (eqU y) j (by simpa using h1) (by omega) (by simpa using h2) (fun m hm hlt=>by simpa using h3 m (by simpa using hm) hlt)) ⟨e,fun w hw=>mem_eqAt ru fy r fs w (by simpa using hw),?_⟩
  exact ⟨.int (j:Nat),H,I.tok _,⟨_,rfl⟩,q⟩
def rInsert:V→List V→Hp→VK→Prop:=fun x vs H Q=>∃ l xs i y,x = .ref l∧vs = [.int i,y]∧H l = some (.lst xs)∧0≤i∧i≤(xs.length:Int)∧xs.length < sizeLine∧Q .non (upd H l (.lst (xs.take i.toNat ++ y :: xs.drop i.toNat)))
theorem insert_run {A:Around} {s:Shared} {P:Program} {w:World} {E:Value→Shared→Prop} {Q:Value→Shared→Prop} {l:Addr} {its:List Value} {n:Nat} {i:Int} {t:Tok} {u:Value} (e:s.heap.get? l = some { cls:=.type "list", data:=.seq its.toArray n }) (h0:0≤i) (h1:i≤(its.length:Int)) (hz:its.length≤sizeLine)
    (h:∀ f:Array Value→Array Value,f its.toArray = (its.take i.toNat ++ u :: its.drop i.toNat).toArray→Q .none { s with heap:=s.heap.update l (Obj.mapSeq f),toks:=s.toks }):wpAny (model P w) A (call (.builtin "list.insert") [.ref l,.int i t,u]) Q E s:=by
  have hn:=line63
  have fit:¬ (!Builtin.List.listFitsIndex i) = true:=by
    rw [fitsIndex_both (k:=i) (Int.le_trans (by decide) h0) (by omega)]
    exact Bool.false_ne_true
  have hs3:its.toArray.size≤sizeLine:=by rw [List.size_toArray]; exact hz
  have M:=AutoSeq1.list_insert_list_int_val_1 l its.toArray n i t u fit hs3
  refine call_meets F.slot_list_insert ⟨_,e,rfl⟩ F.entry_list_insert (F.args_list_insert_3 _ _ _) M ⟨e,?_⟩
  refine h _ ?_
  have hk:(if i < 0 then (i + (its.toArray.size:Int)).toNat else min i.toNat its.toArray.size) = i.toNat:=by
    rw [if_neg (by omega),List.size_toArray]
    omega
  show (its.toArray.extract 0 (if i < 0 then (i + (its.toArray.size:Int)).toNat else min i.toNat its.toArray.size)).push u ++ its.toArray.extract (if i < 0 then (i + (its.toArray.size:Int)).toNat else min i.toNat its.toArray.size) = _
  rw [hk]
  apply Array.toList_inj.mp
  simp [List.take_of_length_le]
theorem mt_insert:MtM X "list.insert" rInsert:=by
  intro pins s σ H x vs v us Q I rx rv h
  obtain ⟨l,xs,i,y,rfl,rfl,hH,h0,h1,hz,q⟩:=h
  cases rx
  obtain ⟨u,w,rfl,⟨t,rfl⟩,rw'⟩:=rv.two
  obtain ⟨z,its,n,r,hl,e⟩:=I.lstM hH
  refine insert_run e h0 (by rw [← hl]; exact h1) (by omega) fun f hf=>?_
  refine ⟨.non,_,I.lset (its':=its.take i.toNat ++ w :: its.drop i.toNat) hH e hf ((r.take i.toNat).append (.cons rw' (r.drop i.toNat))) ?_,rfl,q⟩
  rw [List.length_append,List.length_cons,List.length_take,List.length_drop]
  omega
def rExtendT (K:PySem.W.Frag):V→List V→Hp→VK→Prop:=fun x vs H Q=>∃ l b xs zs,x = .ref l∧vs = [.ref b]∧H l = some (.lst xs)∧SqT K H b zs∧xs.length + zs.length≤sizeLine∧Q .non (upd H l (.lst (xs ++ zs)))
theorem extend_tuple_any (l:Addr) (its:Array Value) (n:Nat) (b:Addr) (its2:Array Value) (n2:Nat) (dd:Option Addr) (sl:Array (Option Value)) (h0:¬(!its.isEmpty && Builtin.List.listTooLong (its.size + its2.size)) = true) (h1:its.size≤sizeLine) (h2:its.size + its2.size≤sizeLine + 1) :
    Meets (Builtin.«list.extend» ⟨[.ref l,.ref b],[]⟩) (fun _ R s=>s.heap.get? l = some { cls:=.type "list", data:=.seq its n }∧s.heap.get? b = some { cls:=.type "tuple", dict:=dd,data:=.seq its2 n2,slots:=sl } ∧
      R (.ok (.ret Value.none)) { s with heap:=s.heap.update l (Obj.mapSeq fun x=>x ++ its2),toks:=s.toks }) :=
  .of_wp fun prog w A R s h=>by
    obtain ⟨hp,g,d,tk,os⟩:=s
    obtain ⟨hl,hb,h⟩:=h
    have g1:=AutoSeq1.idx_int
    have g2:=AutoSeq1.sub_tuple_tuple
    have g3:=AutoSeq1.sub_list_list
    have g4:=AutoSeq1.sub_tuple_list
    have g5:=AutoSeq1.sub_list_tuple
    have hz:(its ++ its2).size≤sizeLine + 1:=by rw [Array.size_append]; exact h2
    wp_walk using (wpAny_updateSeq hl rfl (hz:=h1) (_hz':=hz)),AutoSeq1.wpAny_loadPart' hl,AutoSeq1.wpAny_loadPart' hb
    exact ⟨_,rfl,h⟩
theorem mt_extendT:MtM X "list.extend" (rExtendT X.K):=by
  intro pins s σ H x vs v us Q I rx rv h
  obtain ⟨l,b,xs,zs,rfl,rfl,hH,hB,hz,q⟩:=h
  cases rx
  obtain ⟨u,rfl,ru⟩:=rv.one
  cases ru
  obtain ⟨z,its,n,r,hl,e⟩:=I.lstM hH
  obtain ⟨its2,r2,⟨o,e2,hc,n2,hd⟩,z2⟩:=I.tuple hB
  obtain ⟨cls,dd,dt,sl⟩:=o
  have hc':cls = .type "tuple" := hc
  have hd':dt = .seq its2.toArray n2:=hd
  subst hc' hd'
  have hl2:=r2.length
  have hsz:its.toArray.size + its2.toArray.size≤sizeLine:=by rw [List.size_toArray,List.size_toArray]; omega
  have hlong:¬ (!its.toArray.isEmpty && Builtin.List.listTooLong (its.toArray.size + its2.toArray.size)) = true:=by
    rw [notLongL hsz,Bool.and_false]
    exact Bool.false_ne_true
  refine call_meets F.slot_list_extend ⟨_,e,rfl⟩ F.entry_list_extend (F.args_list_extend_2 _ _)
    (extend_tuple_any l its.toArray n b its2.toArray n2 dd sl hlong (by rw [List.size_toArray]; omega) (by omega)) ⟨e,e2,?_⟩
  refine ⟨.non,_,I.lset (its':=its ++ its2) hH e (by simp) (r.append r2) ?_,rfl,q⟩
  rw [List.length_append]
  omega
theorem range_all_get (bs:List Bool):((List.range bs.length).all fun i=>(bs[i]?).getD true) = bs.all id:=by
  rw [Bool.eq_iff_iff,List.all_eq_true,List.all_eq_true]
  constructor
  · intro h b hb
    obtain ⟨i,hi,e⟩:=List.getElem_of_mem hb
    have q:=h i (List.mem_range.mpr hi)
    rw [List.getElem?_eq_getElem hi,Option.getD_some,e] at q
    exact q
  · intro h i hi
    have hi':=List.mem_range.mp hi
    rw [List.getElem?_eq_getElem hi',Option.getD_some]
    exact h _ (List.getElem_mem hi')
theorem call_all (hc:X.calm = true):CallR X (.builtin "all") (fun xs H Q=>∃ (p:Addr) (bs:List Bool),xs = [.ref p]∧SqL X.K H p (bs.map V.bl)∧Q (.bl (bs.all id)) H):=by
  intro pins s σ H xs us Q I r h
  obtain ⟨p,bs,rfl,hq,q⟩:=h
  obtain ⟨u,rfl,rx⟩:=vals1 r
  cases rx
  obtain ⟨its,r',pl,hz⟩:=I.list hq
  have hlen:bs.length = its.length:=by have:=r'.length; rw [List.length_map] at this; exact this
  have hlt:p < s.heap.objs.size:=by obtain ⟨_,e,_⟩:=pl.isList; exact Heap.lt_size e
  refine call_all_walk (wpAny_pyIter_list pl.isList ?_)
  refine ⟨s.heap.objs.size,[s.heap.objs.size,p],[s.heap.objs.size],its.toArray.size,_,_,fun i=>(bs[i]?).getD true,rfl,Walks.list (A:=X.A.in1) (I.ok.hd hc) _ p (Nat.ne_of_lt hlt) its.toArray,
    ⟨⟨_,Heap.get?_push_size _ rfl,rfl,rfl⟩,pl.isList.push _⟩,fun i v s' Q' E' hP hQ=>?_,fun h' tk hk=>?_⟩
  · have hP':its[i]? = some v:=by simpa using hP
    have hi:i < bs.length:=by
      have:=(List.getElem?_eq_some_iff.mp hP').1
      omega
    obtain ⟨w,hw,rw'⟩:=r'.get (i:=i) (x:=.bl bs[i]) (by rw [List.getElem?_map,List.getElem?_eq_getElem hi]; rfl)
    rw [hP'] at hw
    cases hw
    cases rw'
    simp only [List.getElem?_eq_getElem hi,Option.getD_some] at hQ
    exact wpAny_truthy_bool hQ
  · have kp:∀ b o,s.heap.get? b = some o→h'.get? b = some o:=fun b o e=>hk b o (fun hm=>by
      rw [List.mem_singleton.mp hm] at e
      exact Nat.lt_irrefl _ (Heap.lt_size e)) (Heap.get?_push_of_some _ e)
    refine ⟨.bl _,H,I.kept kp,rfl,?_⟩
    rw [List.size_toArray,← hlen,range_all_get]
    exact q
theorem call_isinst:CallR X (.builtin "isinstance") (fun xs H Q=>∃ x T t b,xs = [x,.ty T]∧TyOf X.K H x t∧PySem.W.kitOne X.K t (.type T) = some b∧Q (.bl b) H):=by
  intro pins s σ H xs us Q I r h
  obtain ⟨x,T,t,b,rfl,ty,e,q⟩:=h
  obtain ⟨u,w',rfl,rx,ry⟩:=vals2 r
  cases ry
  exact isinst_ok I rx ty e fun tk=>⟨.bl b,H,I.tok _,rfl,q⟩
end
end L2
namespace L2
open PySem PySem.Spec PyProof.Rows
def met (acc:List Str) (x:Str):List Str:=if acc.any (· == x) then acc else acc ++ [x]
def dd (xs:List Str):List Str:=xs.foldl met []
theorem dd_snoc (xs:List Str) (x:Str):dd (xs ++ [x]) = met (dd xs) x:=by
  unfold dd
  rw [List.foldl_append]
  rfl
theorem met_any (acc:List Str) (x k:Str):(met acc x).any (· == k) = (acc.any (· == k) || decide (k = x)):=by
  unfold met
  by_cases h:acc.any (· == x) = true
  · rw [if_pos h]
    by_cases e:k = x
    · subst e; rw [h]; simp
    · simp [e]
  · rw [if_neg h,List.any_append]
    by_cases e:k = x
    · subst e; simp
    · have hb:(x == k) = false:=by simpa [beq_iff_eq] using (fun z:x = k=>e z.symm)
      simp [hb,e]
theorem met_len (acc:List Str) (x:Str):(met acc x).length = if acc.any (· == x) = true then acc.length else acc.length + 1:=by
  unfold met
  split <;> simp
theorem dd_le (xs:List Str):(dd xs).length≤xs.length:=by
  suffices h:∀ acc:List Str,(xs.foldl met acc).length≤acc.length + xs.length by have:=h []; unfold dd; simpa using this
  induction xs with
  | nil=>intro acc; simp
  | cons x r ih =>
    intro acc
    rw [List.foldl_cons]
    have h1:=ih (met acc x)
    have h2:=met_len acc x
    rw [List.length_cons]
    split at h2 <;> omega
theorem dd_nodup {xs:List Str} (h:xs.Nodup):(dd xs).length = xs.length:=by
  suffices g:∀ acc:List Str,(∀ x∈xs,acc.any (· == x) = false)→(xs.foldl met acc).length = acc.length + xs.length by have:=g [] (fun _ _=>rfl); unfold dd; simpa using this
  induction xs with
  | nil=>intro acc _; simp
  | cons x r ih =>
    intro acc ha
    obtain ⟨hx,hr⟩:=List.nodup_cons.mp h
    rw [List.foldl_cons,ih hr (met acc x) (fun y hy=>?_),met_len,ha x List.mem_cons_self]
    · simp; omega
    · rw [met_any,ha y (List.mem_cons_of_mem _ hy)]
      have:y≠x:=fun e=>hx (e ▸ hy)
      simp [this]
theorem dd_dup {xs:List Str} (h:¬ xs.Nodup):(dd xs).length < xs.length:=by
  suffices g:∀ acc:List Str,¬ xs.Nodup→(xs.foldl met acc).length < acc.length + xs.length by have:=g [] h; unfold dd; simpa using this
  clear h
  have le:∀ (ys acc:List Str),(ys.foldl met acc).length≤acc.length + ys.length:=fun ys=>by
    induction ys with
    | nil=>intro acc; simp
    | cons x r ih =>
      intro acc
      rw [List.foldl_cons]
      have h1:=ih (met acc x)
      have h2:=met_len acc x
      rw [List.length_cons]
      split at h2 <;> omega
  have mem:∀ (ys acc:List Str) (x:Str),x∈ys→acc.any (· == x) = true→(ys.foldl met acc).length < acc.length + ys.length:=fun ys=>by
    induction ys with
    | nil=>intro acc x hx _; cases hx
    | cons y r ih =>
      intro acc x hx ha
      rw [List.foldl_cons,List.length_cons]
      rcases List.mem_cons.mp hx with e | hx
      · subst e
        have h1:=le r (met acc x)
        have h2:=met_len acc x
        rw [if_pos ha] at h2
        omega
      · have h1:=ih (met acc y) x hx (by rw [met_any,ha]; rfl)
        have h2:=met_len acc y
        split at h2 <;> omega
  induction xs with
  | nil=>intro acc h; exact absurd List.nodup_nil h
  | cons x r ih =>
    intro acc h
    rw [List.foldl_cons,List.length_cons]
    by_cases hx:x∈r
    · have h1:=mem r (met acc x) x hx (by rw [met_any]; simp)
      have h2:=met_len acc x
      split at h2 <;> omega
    · have h1:=ih (met acc x) (fun hr=>h (List.nodup_cons.mpr ⟨hx,hr⟩))
      have h2:=met_len acc x
      split at h2 <;> omega
abbrev setO (led:Bool):Obj:={ cls:=.type "set", dict:=none,data:=.set #[] 0 (.fresh 0 0 led) }
section
variable {P:Program} {w:World} {A:Around} {R:Result→Shared→Prop} {E:Value→Shared→Prop} {s:Shared}
theorem lay_strs {I:Addr} {fp wr:List Addr} {G:Array GenState→Array GenState→Prop} {n:Nat} {Pv:Nat→Value→Prop} {St:Nat→Shared→Prop} (W:WalksS P w A.in1 I fp wr G n Pv St) (S:Addr) (hS:S ∉ fp) (xs:List Str) (hn:xs.length = n)
    (hv:∀ i v,Pv i v→∃ t,v = .str (xs.getD i "") t) (hb:n + 1 < scanBound) :
    ∀ (k i:Nat) (z:Shared),n - i = k→i≤n→St i z→z.heap.SetOf (strKind P w) S (fun q=>(dd (xs.take i)).any (· == q)) (dd (xs.take i)).length →
      (∀ z',Moved (S :: wr) G z z'→z'.heap.SetOf (strKind P w) S (fun q=>(dd xs).any (· == q)) (dd xs).length→R (.ok (.ret .none)) z') →
      codeAny (model P w) A (.builtin "set.update.loop" ⟨[.ref S,.ref I],[]⟩) R z:=by
  have notw:S ∉ wr:=fun h=>hS (W.sub _ h)
  have more:∀ b∈wr,b∈S :: wr:=fun b h=>List.mem_cons_of_mem _ h
  intro k
  induction k with
  | zero =>
    intro i z hk hi st hset fin
    have ei:i = n:=by omega
    subst ei
    refine codeAny_builtin PyProof.Rows.F.entry_set_update_loop ?_
    rw [Around.under_plainId PyProof.Rows.F.plain_set_update_loop _]
    show wpAny _ A.in1 (pyNext (.ref I) >>= _) _ _ z
    refine wpAny_bind (W.done z _ _ st fun z' mv=>?_)
    show wpAny _ A.in1 (ret Value.none) _ _ z'
    refine wpAny_pure (fin z' (mv.mono more) ?_)
    rw [← hn,List.take_length] at hset
    obtain ⟨o,es,ep,t,ho,more'⟩:=hset
    exact ⟨o,es,ep,t,mv.heap S _ notw ho,more'⟩
  | succ k ih =>
    intro i z hk hi st hset fin
    have il:i < n:=by omega
    refine codeAny_builtin PyProof.Rows.F.entry_set_update_loop ?_
    rw [Around.under_plainId PyProof.Rows.F.plain_set_update_loop _]
    show wpAny _ A.in1 (pyNext (.ref I) >>= _) _ _ z
    refine wpAny_bind (W.item i z _ _ il st fun v z' pv st' mv=>?_)
    obtain ⟨t,rfl⟩:=hv i v pv
    have hset':z'.heap.SetOf (strKind P w) S (fun q=>(dd (xs.take i)).any (· == q)) (dd (xs.take i)).length:=by
      obtain ⟨o,es,ep,tb,ho,more'⟩:=hset
      exact ⟨o,es,ep,tb,mv.heap S _ notw ho,more'⟩
    show wpAny _ A.in1 (holding [Value.str (xs.getD i "") t] (setAdd S (.str (xs.getD i "") t)) >>= _) _ _ z'
    refine wpAny_bind (wpAny_holding ?_)
    unfold setAdd
    refine wpAny_holding ?_
    refine wpAny_bind ((strKind P w).pyHash (k:=xs.getD i "") (strKind_is _ _ _ _) ?_)
    have hroom:(dd (xs.take i)).length + 1 < scanBound:=by
      have:=dd_le (xs.take i)
      rw [List.length_take] at this
      omega
    have et:xs.take (i + 1) = xs.take i ++ [xs.getD i ""]:=by
      rw [List.take_succ,List.getD_eq_getElem?_getD,List.getElem?_eq_getElem (by omega)]
      rfl
    refine wpAny_setAddHashed_of (knd:=strKind P w) (s:={ z' with toks:=z'.toks + 1 }) (strKind_is _ _ _ _) rfl hset' hroom fun h' sb s2=>?_
    have hset2:h'.SetOf (strKind P w) S (fun q=>(dd (xs.take (i + 1))).any (· == q)) (dd (xs.take (i + 1))).length :=
      SetOf_congr s2 (fun q=>by rw [et,dd_snoc,met_any]) (by rw [et,dd_snoc,met_len])
    refine wpAny_pure ⟨plainId_quiet PyProof.Rows.F.plain_set_update_loop _,ih (i + 1) _ (by omega) il (W.frame _ z' _ _ st' (Nat.le_succ _) fun b hb' o e=>?_) hset2 fun z'' mv2 s3=>?_⟩
    · rw [sb.2 b (fun h:b = S=>hS (by rw [← h]; exact hb'))]; exact e
    · refine fin z'' (Moved.trans W.gtrans ((mv.mono more).then_heap (Nat.le_succ _) fun b o hb' e=>?_) mv2) s3
      rw [sb.2 b (fun h:b = S=>hb' (by rw [h]; exact List.mem_cons_self))]; exact e
theorem strs_at {xs:List Str}:∀ {us:List Value},Vals (xs.map V.str) us→∀ (i:Nat) (v:Value),us[i]? = some v→∃ t,v = .str (xs.getD i "") t:=by
  intro us r i v h
  have hl:=r.length
  rw [List.length_map] at hl
  have hi:i < xs.length:=by have:=(List.getElem?_eq_some_iff.mp h).1; omega
  obtain ⟨u,hu,t,e⟩:=r.get (i:=i) (x:=.str xs[i]) (by rw [List.getElem?_map,List.getElem?_eq_getElem hi]; rfl)
  rw [h] at hu
  cases hu
  refine ⟨t,?_⟩
  rw [e,List.getD_eq_getElem?_getD,List.getElem?_eq_getElem hi]
  rfl
set_option maxHeartbeats 8000000 in
theorem set_strs {l:Addr} {us:List Value} {xs:List Str} {Q:Value→Shared→Prop} (hh:A.handled = none) (hl:s.heap.IsList l us.toArray) (r:Vals (xs.map V.str) us) (hb:xs.length + 1 < scanBound)
    (h:∀ (h':Heap) (tk:Nat),h'.SetOf (strKind P w) s.heap.objs.size (fun q=>(dd xs).any (· == q)) (dd xs).length→(∀ b o,s.heap.get? b = some o→h'.get? b = some o)→Q (.ref s.heap.objs.size) { s with heap:=h',toks:=tk }) :
    wpAny (model P w) A (call (.type "set") [.ref l]) Q E s:=by
  have hlen:xs.length = us.toArray.size:=by have:=r.length; rw [List.length_map] at this; simpa using this
  obtain ⟨cc,tl,hmro⟩:=F.called_set.mro
  have made:=F.called_set.made
  have sub:=F.called_set.sub
  refine wpAny_call (codeAny_of_tree ?_)
  show wpAny _ _ (callAny (.type "set") _) _ _ _
  refine wpAny_pure ⟨Code.quiet_builtin _ (by decide +kernel),codeAny_builtin F.entry_type_call ?_⟩
  rw [Around.under_plain (weight_type_call_type "set" [.ref l] []) rfl]
  have a1:=F.called_set.notType
  have a2:=F.called_set.canCreate
  have a3:=F.typeCall_set_1 (.ref l)
  repeat (any_goals (first | assumption | wp_step))
  refine codeAny_mono (code_set_new_1 (.ref l) (E:=E) (Q₁:=fun ob z=>∃ led:Bool,ob = .ref s.heap.objs.size∧z = { s with heap:=s.heap.push { cls:=.type "set", dict:=none,data:=.set #[] 0 (.fresh 0 0 led) } }) fun led=>⟨led,rfl,rfl⟩) fun res z hres=>?_
  cases res with
  | error e=>exact hres
  | ok fl =>
    cases fl with
    | ret ob =>
      obtain ⟨led,rfl,rfl⟩:=hres
      have gS:(s.heap.push (setO led)).get? s.heap.objs.size = some (setO led):=Heap.get?_push_size _ rfl
      have tS:Shared.TypeIs { s with heap:=s.heap.push (setO led) } (.ref s.heap.objs.size) "set" := ⟨_,gS,rfl⟩
      have b1:=F.called_set.init.lookup
      have b2:=F.called_set.init.bind (.ref s.heap.objs.size)
      repeat (any_goals (first | assumption | wp_step))
      refine codeAny_mono (codeAny_call_builtin (R:=wants (fun v z=>v = .none∧∃ h' tk,z = { s with heap:=h',toks:=tk }∧h'.SetOf (strKind P w) s.heap.objs.size (fun q=>(dd xs).any (· == q)) (dd xs).length∧(∀ b o,s.heap.get? b = some o→h'.get? b = some o)) E)
        F.called_set.init.plain F.entry_set_init (check_set_init_1 tS ?_)) fun res2 z2 hres2=>?_
      · obtain ⟨ol,gl,cl,nl,dl⟩:=hl
        obtain ⟨ocls,odict,odata,oslots⟩:=ol
        have cl':ocls = .type "list" := cl
        have dl':odata = .seq us.toArray nl:=dl
        subst cl' dl'
        have gl':(s.heap.push (setO led)).get? l = some { cls:=.type "list", dict:=odict,data:=.seq us.toArray nl,slots:=oslots }:=Heap.get?_push_of_some _ gl
        have c1:=F.sub_list_set
        have c2:=F.sub_list_frozenset
        have c3:(Value.type "list" == Value.type "dict") = false:=by decide
        have isl:(s.heap.push (setO led)).IsList l us.toArray:=⟨_,gl',rfl,nl,rfl⟩
        unfold Builtin.«set.__init__» noKeywords Builtin.Frozenset.updateFrom
        generalize hit:pyIter = itf
        wp_walk
        subst hit
        refine wpAny_pyIter_list isl ?_
        refine wpAny_bind (wpAny_runValue ?_)
        have ltl:l < s.heap.objs.size:=Heap.lt_size gl
        have hd3:A.in1.in1.in1.handled = none:=by simp [hh]
        have sz1:(s.heap.push (setO led)).objs.size = s.heap.objs.size + 1:=Heap.size_push ..
        have nel:l≠(s.heap.push (setO led)).objs.size:=by rw [sz1]; exact Nat.ne_of_lt (Nat.lt_succ_of_lt ltl)
        have nin:s.heap.objs.size ∉ [(s.heap.push (setO led)).objs.size,l]:=by
          rw [sz1]
          simp only [List.mem_cons,List.not_mem_nil,or_false,not_or]
          exact ⟨Nat.ne_of_lt (Nat.lt_succ_self _),Nat.ne_of_gt ltl⟩
        refine lay_strs ((Walks.list hd3 _ l nel us.toArray).toS) s.heap.objs.size nin xs hlen (fun i v hv=>strs_at r i v (by simpa using hv)) (by rw [← hlen]; exact hb) (us.toArray.size - 0) 0 _ (by omega) (Nat.zero_le _)
          ⟨⟨_,Heap.get?_push_size _ rfl,rfl,rfl⟩,isl.push _⟩ ?s0 ?fin
        case s0 =>
          have gg:((s.heap.push (setO led)).push { cls:=.type "list_iterator", data:=.fields #[.ref l,.int 0 0] }).get? s.heap.objs.size = some (setO led):=Heap.get?_push_of_some _ gS
          exact SetOf_congr ((setObjOf_fresh (knd:=strKind P w) led).setOf gg (by unfold scanBound; omega)) (fun _=>rfl) rfl
        case fin =>
          intro z mv sz
          obtain ⟨h',g',d',tk',os'⟩:=z
          have e1:g' = s.gens:=mv.gens
          have e2:d' = s.drawn:=mv.drawn
          have e3:os' = s.os:=mv.os
          subst e1 e2 e3
          show wpAny _ _ _ _ _ _
          refine wpAny_pure ?_
          show wpAny _ _ (ret Value.none) _ _ _
          refine wpAny_pure ⟨rfl,h',tk',rfl,sz,fun b o e=>?_⟩
          have lb:=Heap.lt_size e
          have n1:b≠s.heap.objs.size:=Nat.ne_of_lt lb
          have n2:b≠(s.heap.push (setO led)).objs.size:=by rw [sz1]; exact Nat.ne_of_lt (Nat.lt_succ_of_lt lb)
          exact mv.heap b o (by simp only [List.mem_cons,List.not_mem_nil,or_false,not_or]; exact ⟨n1,n2⟩) (Heap.get?_push_of_some _ (Heap.get?_push_of_some _ e))
      · cases res2 with
        | error e=>exact hres2
        | ok fl2 =>
          cases fl2 with
          | ret v =>
            obtain ⟨rfl,h',tk,rfl,sS,kk⟩:=hres2
            repeat (any_goals (first | assumption | wp_step))
            exact h _ _ sS kk
          | _=>exact hres2.elim
    | _=>exact hres.elim
end
end L2
namespace L2
open PySem PySem.Spec PyProof.Rows
section
variable {X:Cx}
def SetN (P:Program) (w:World) (a:Addr) (n:Nat):HO:=.ext fun h=>∃ S,h.SetOf (strKind P w) a S n
theorem call_set (hc:X.calm = true):CallR X (.type "set") (fun xs H Q=>∃ (p:Addr) (ts:List Str),xs = [.ref p]∧SqL X.K H p (ts.map V.str)∧ts.length≤100∧∀ q,H q = none→Q (.ref q) (upd H q (SetN X.prog X.w q (dd ts).length))):=by
  intro pins s σ H xs us Q I r h
  obtain ⟨p,ts,rfl,hq,h100,q⟩:=h
  obtain ⟨u,rfl,rx⟩:=vals1 r
  cases rx
  obtain ⟨its,r',pl,hz⟩:=I.list hq
  refine set_strs (I.ok.hd hc) pl.isList r' (Nat.lt_of_le_of_lt (Nat.add_le_add_right h100 1) (by decide)) fun h' tk hS hk=>?_
  refine ⟨.ref s.heap.objs.size,_,I.laid hk (Nat.le_refl _) (o:=SetN X.prog X.w s.heap.objs.size (dd ts).length) ?_,rfl,q _ (I.hok.fresh (Nat.le_refl _))⟩
  refine ⟨⟨_,hS⟩,?_,?_⟩
  · obtain ⟨o,es,ep,t,ho,_⟩:=hS
    exact ⟨o,ho⟩
  · rintro h1 h2 ⟨S,o,es,ep,t,ho,rest⟩ k
    exact ⟨S,o,es,ep,t,k o ho,rest⟩
theorem call_len_set':CallR X (.builtin "len") (fun xs H Q=>∃ (p:Addr) (n:Nat),xs = [.ref p]∧H p = some (SetN X.prog X.w p n)∧Q (.int n) H):=by
  intro pins s σ H xs us Q I r h
  obtain ⟨p,n,rfl,hp,q⟩:=h
  obtain ⟨u,rfl,rx⟩:=vals1 r
  cases rx
  obtain ⟨⟨S,o,es,ep,t,ho,hex,hd,_,_,hb,hf,hn⟩,_⟩:=I.hok p _ hp
  have h63:(es.size:Int) < 2 ^ 63:=by
    have h1:scanBound < 2 ^ 63:=by decide
    omega
  refine call_len_set ho hex hd hf h63 ⟨.int n,H,I.tok _,⟨s.toks + 1,?_⟩,q⟩
  rw [hn]
def DicK (K:PySem.W.Frag) (P:Program) (w:World) (a:Addr) (kvs:List (Str × Value)):Prop:=(a == sysModules) = false∧∃ o,K.lookup a = some o∧o.IsDictOf (strKind P w) kvs
theorem ix_dicK {a:Addr} {kvs:List (Str × Value)} (hd:DicK X.K X.prog X.w a kvs):IxR X (fun x y H Q=>∃ k u v,x = .ref a∧y = .str k∧valueAt kvs k = some u∧RelV v u∧Q v H):=by
  intro value slice pins s σ H x y v u Q I rx ry h hs
  obtain ⟨k,z,vv,rfl,rfl,hv,rv,q⟩:=h
  cases rx
  obtain ⟨t,rfl⟩:=ry
  obtain ⟨_,o,hk,hdd⟩:=hd
  have D:s.heap.DictOf (strKind X.prog X.w) a kvs:=Heap.dictOf_iff.mpr ⟨o,I.kIn a o hk,hdd⟩
  exact tail_any D.typeIs slot_dict_getitem.lookup (wpAny_getItem_of (strKind_is _ _ k t) D.mapOf hv ⟨vv,H,I.tok _,rv,q⟩) hs
theorem op_notIn_dicK {a:Addr} {kvs:List (Str × Value)} (hd:DicK X.K X.prog X.w a kvs):OpR X (compareOp .NotIn) (fun x y H Q=>∃ k,x = .str k∧y = .ref a∧Q (.bl (!(valueAt kvs k).isSome)) H):=by
  intro pins s σ H x y v u Q I rx ry h
  obtain ⟨k,rfl,rfl,q⟩:=h
  cases ry
  obtain ⟨t,rfl⟩:=rx
  obtain ⟨hs,o,hk,hdd⟩:=hd
  have D:s.heap.DictOf (strKind X.prog X.w) a kvs:=Heap.dictOf_iff.mpr ⟨o,I.kIn a o hk,hdd⟩
  exact wpAny_notIn_of (strKind_is _ _ k t) hs D.mapOf ⟨.bl _,H,I.tok _,rfl,q⟩
end
end L2
namespace L2
open PySem PySem.Spec PyProof.Rows
theorem bt_len:bootBuiltins "len" = some (.builtin "len"):=by decide +kernel
theorem bt_all:bootBuiltins "all" = some (.builtin "all"):=by decide +kernel
theorem bt_isinstance:bootBuiltins "isinstance" = some (.builtin "isinstance"):=by decide +kernel
theorem bt_str:bootBuiltins "str" = some (.type "str"):=by decide +kernel
theorem bt_tuple:bootBuiltins "tuple" = some (.type "tuple"):=by decide +kernel
theorem bt_list:bootBuiltins "list" = some (.type "list"):=by decide +kernel
theorem bt_set:bootBuiltins "set" = some (.type "set"):=by decide +kernel
theorem rel_of_abs {v:V} {u:Value} (h:absV u = some v):RelV v u:=by
  cases u <;> simp only [absV,Option.some.injEq,reduceCtorEq] at h <;> subst h <;> first | exact rfl | exact ⟨_,rfl⟩
theorem vals_of_abs:∀ {us:List Value} {xs:List V},us.map absV = xs.map some→Vals xs us
  | [],[],_=>.nil
  | u :: us,x :: xs,h=>by
    rw [List.map_cons,List.map_cons] at h
    injection h with h1 h2
    exact .cons (rel_of_abs h1) (vals_of_abs h2)
  | [],_ :: _,h=>by cases h
  | _ :: _,[],h=>by cases h
theorem sqT_K {K:PySem.W.Frag} {H:Hp} {p:Addr} {od:Option Addr} {it:Array Value} {n:Nat} {sl:Array (Option Value)} {xs:List V} (l:K.lookup p = some ⟨.type "tuple", od,.seq it n,sl⟩) (v:it.toList.map absV = xs.map some) (hz:xs.length≤1000):SqT K H p xs:=by
  have r:=vals_of_abs v
  refine .inr ⟨_,it,n,l,rfl,rfl,?_,r⟩
  have e:xs.length = it.size:=by have:=r.length; simpa using this
  rw [← e]
  exact Nat.le_of_lt (small1000 hz)
theorem dk_nil {P:Program} {w:World}:Pairs (strKind P w) [] []∧∀ e∈([]:List DictEntry),∃ k,(strKind P w).is k e.key = true∧e.hash = (strKind P w).hash k:=⟨.nil,fun _ h=>nomatch h⟩
theorem dk_cons {P:Program} {w:World} {k:Str} {t:Tok} {v:Value} {es:List DictEntry} {kvs:List (Str × Value)} (h:Pairs (strKind P w) es kvs∧∀ e∈es,∃ k,(strKind P w).is k e.key = true∧e.hash = (strKind P w).hash k) :
    Pairs (strKind P w) (⟨hashStr w k,.str k t,v⟩ :: es) ((k,v) :: kvs)∧∀ e∈(⟨hashStr w k,.str k t,v⟩ :: es:List DictEntry),∃ k,(strKind P w).is k e.key = true∧e.hash = (strKind P w).hash k:=by
  refine ⟨.cons (strKind_is _ _ k t) rfl h.1,fun e he=>?_⟩
  rcases List.mem_cons.mp he with z | z
  · subst z; exact ⟨k,strKind_is _ _ k t,rfl⟩
  · exact h.2 e z
theorem dicK_mk {P:Program} {w:World} {K:PySem.W.Frag} {p:Addr} {es:Array DictEntry} {ep:Nat} {el:List DictEntry} {kvs:List (Str × Value)} (l:K.lookup p = some ⟨.type "dict", none,.dict es ep,#[]⟩) (e:es.toList = el) (s:(p == sysModules) = false)
    (h:Pairs (strKind P w) el kvs∧∀ e∈el,∃ k,(strKind P w).is k e.key = true∧e.hash = (strKind P w).hash k) (nd:(kvs.map (·.1)).Nodup):DicK K P w p kvs:=by
  subst e
  exact ⟨s,_,l,es,ep,⟨rfl,rfl,rfl⟩,rfl,fun x hx=>h.2 x (by simpa using hx),h.1,nd⟩
end L2
namespace Sen
open PySem
inductive Sn where
  | c0 (y:Bool)
  | mk (x:Str)
  | nt (s:Sn)
  | b2 (o:Fin 4) (s t:Sn)
  | q1 (o:Bool) (x:Str) (s:Sn)
def w2:Fin 4→Str
  | 0 => "and"
  | 1 => "or"
  | 2 => "either"
  | 3 => "if"
namespace Sn
def word:Sn→Str
  | c0 true => "yes"
  | c0 false => "no"
  | mk _ => "mark"
  | nt _ => "not"
  | b2 o _ _=>w2 o
  | q1 true _ _ => "some"
  | q1 false _ _ => "each"
def letters:Sn→List Str
  | mk x=>[x]
  | q1 _ x _=>[x]
  | _=>[]
def parts:Sn→List Sn
  | nt s=>[s]
  | b2 _ s t=>[s,t]
  | q1 _ _ s=>[s]
  | _=>[]
def count:Sn→Nat
  | nt s=>1 + s.count
  | b2 _ s t=>1 + (s.count + t.count)
  | q1 _ _ s=>1 + s.count
  | _=>1
def depth:Sn→Nat
  | nt s=>1 + s.depth
  | b2 _ s t=>1 + max s.depth t.depth
  | q1 _ _ s=>1 + s.depth
  | _=>1
def inO (os:List Str):Sn→Prop
  | c0 _=>True
  | mk x=>x∈os
  | nt s=>s.inO os
  | b2 _ s t=>s.inO os∧t.inO os
  | q1 _ x s=>x∈os∧s.inO os
def op2:Fin 4→Bool→Bool→Bool
  | 0,a,b=>a && b
  | 1,a,b=>a || b
  | 2,a,b=>a != b
  | 3,a,b=>!a || b
def val:Sn→(Str→Bool)→Bool
  | c0 y,_=>y
  | mk x,e=>e x
  | nt s,e=>!s.val e
  | b2 o s t,e=>op2 o (s.val e) (t.val e)
  | q1 true x s,e=>s.val (fun y=>if y = x then true else e y) || s.val (fun y=>if y = x then false else e y)
  | q1 false x s,e=>s.val (fun y=>if y = x then true else e y) && s.val (fun y=>if y = x then false else e y)
theorem val_congr {os:List Str}:∀ (s:Sn) {e e':Str→Bool},s.inO os→(∀ x∈os,e x = e' x)→s.val e = s.val e'
  | c0 _,_,_,_,_=>rfl
  | mk x,_,_,h,q=>q x h
  | nt s,_,_,h,q=>by unfold val; rw [val_congr s h q]
  | b2 o s t,_,_,h,q=>by unfold val; rw [val_congr s h.1 q,val_congr t h.2 q]
  | q1 o x s,e,e',h,q=>by
    have k:∀ b:Bool,s.val (fun y=>if y = x then b else e y) = s.val (fun y=>if y = x then b else e' y):=fun b=>val_congr s h.2 fun y hy=>by
      by_cases hx:y = x
      · rw [if_pos hx,if_pos hx]
      · rw [if_neg hx,if_neg hx,q y hy]
    cases o <;> (unfold val; rw [k,k])
theorem depth_pos:∀ s:Sn,1≤s.depth
  | c0 _=>Nat.le_refl _
  | mk _=>Nat.le_refl _
  | nt _=>by unfold depth; omega
  | b2 _ _ _=>by unfold depth; omega
  | q1 _ _ _=>by unfold depth; omega
theorem count_parts:∀ s:Sn,s.count = 1 + (s.parts.map count).sum
  | c0 _=>rfl
  | mk _=>rfl
  | nt _=>by simp [count,parts]
  | b2 _ _ _=>by simp [count,parts]
  | q1 _ _ _=>by simp [count,parts]
theorem depth_parts:∀ (s:Sn),∀ t∈s.parts,t.depth + 1≤s.depth
  | c0 _,t,h=>by simp [parts] at h
  | mk _,t,h=>by simp [parts] at h
  | nt s,t,h=>by simp [parts] at h; subst h; show t.depth + 1≤1 + t.depth; omega
  | b2 _ s u,t,h=>by
    simp [parts] at h
    rcases h with h | h
    · subst h; show t.depth + 1≤1 + max t.depth u.depth; omega
    · subst h; show t.depth + 1≤1 + max s.depth t.depth; omega
  | q1 _ _ s,t,h=>by simp [parts] at h; subst h; show t.depth + 1≤1 + t.depth; omega
theorem inO_parts {os:List Str}:∀ (s:Sn),s.inO os→∀ t∈s.parts,t.inO os
  | c0 _,_,t,h=>by simp [parts] at h
  | mk _,_,t,h=>by simp [parts] at h
  | nt s,q,t,h=>by simp [parts] at h; subst h; exact q
  | b2 _ s u,q,t,h=>by
    simp [parts] at h
    rcases h with h | h <;> subst h
    · exact q.1
    · exact q.2
  | q1 _ _ s,q,t,h=>by simp [parts] at h; subst h; exact q.2
theorem inO_letters {os:List Str}:∀ (s:Sn),s.inO os→∀ x∈s.letters,x∈os
  | c0 _,_,t,h=>by simp [letters] at h
  | mk _,q,t,h=>by simp [letters] at h; subst h; exact q
  | nt s,q,t,h=>by simp [letters] at h
  | b2 _ s u,q,t,h=>by simp [letters] at h
  | q1 _ _ s,q,t,h=>by simp [letters] at h; subst h; exact q.1
end Sn
theorem tb_add_same (b p:Nat):(b + 2 ^ p).testBit p = !b.testBit p:=by rw [Nat.add_comm]; exact Nat.testBit_two_pow_add_eq b p
theorem tb_add_lt {b p j:Nat} (h:j < p):(b + 2 ^ p).testBit j = b.testBit j:=by rw [Nat.add_comm]; exact Nat.testBit_two_pow_add_gt h b
theorem bit0_mod {b p:Nat} (h:b.testBit p = false):b % 2 ^ (p + 1) < 2 ^ p:=by
  have e:b % 2 ^ (p + 1) = b % 2 ^ p + 2 ^ p * (b / 2 ^ p % 2):=by
    rw [Nat.pow_succ]; exact Nat.mod_mul
  have z:b / 2 ^ p % 2 = 0:=by
    rw [Nat.testBit_eq_decide_div_mod_eq] at h
    have:=of_decide_eq_false h
    omega
  rw [e,z,Nat.mul_zero,Nat.add_zero]
  exact Nat.mod_lt b (Nat.two_pow_pos p)
theorem tb_div (x i j:Nat):x.testBit (i + j) = (x / 2 ^ i).testBit j:=by
  rw [Nat.testBit_div_two_pow,Nat.add_comm]
theorem tb_add_gt {b p j:Nat} (h:p < j) (h0:b.testBit p = false):(b + 2 ^ p).testBit j = b.testBit j:=by
  obtain ⟨k,rfl⟩:∃ k,j = (p + 1) + k:=⟨j - (p + 1),by omega⟩
  rw [tb_div,tb_div]
  have hm:=bit0_mod h0
  have e:(b + 2 ^ p) / 2 ^ (p + 1) = b / 2 ^ (p + 1):=by
    have hp:2 ^ (p + 1) = 2 ^ p + 2 ^ p:=by rw [Nat.pow_succ]; omega
    have d:=Nat.div_add_mod b (2 ^ (p + 1))
    have pos:=Nat.two_pow_pos (p + 1)
    rw [Nat.div_eq_iff pos]
    have c:b / 2 ^ (p + 1) * 2 ^ (p + 1) = 2 ^ (p + 1) * (b / 2 ^ (p + 1)):=Nat.mul_comm _ _
    rw [c]
    omega
  rw [e]
def putBit (b p:Nat) (v:Bool):Nat:=if b.testBit p = v then b else if v then b + 2 ^ p else b - 2 ^ p
theorem ge_of_bit {b p:Nat} (h:b.testBit p = true):2 ^ p≤b:=Nat.ge_two_pow_of_testBit h
theorem putBit_bit (b p j:Nat) (v:Bool):(putBit b p v).testBit j = if j = p then v else b.testBit j:=by
  unfold putBit
  by_cases h:b.testBit p = v
  · rw [if_pos h]
    by_cases hj:j = p
    · rw [if_pos hj,hj,h]
    · rw [if_neg hj]
  · rw [if_neg h]
    cases v with
    | true =>
      have h0:b.testBit p = false:=by simpa using h
      rw [if_pos rfl]
      by_cases hj:j = p
      · subst hj; rw [if_pos rfl,tb_add_same,h0]; rfl
      · rw [if_neg hj]
        rcases Nat.lt_or_gt_of_ne hj with q | q
        · exact tb_add_lt q
        · exact tb_add_gt q h0
    | false =>
      have h1:b.testBit p = true:=by simpa using h
      rw [if_neg Bool.false_ne_true]
      have ge:=ge_of_bit h1
      obtain ⟨c,hc⟩:∃ c,b = c + 2 ^ p:=⟨b - 2 ^ p,by omega⟩
      have h0:c.testBit p = false:=by
        rw [hc,tb_add_same] at h1
        simpa using h1
      have e:b - 2 ^ p = c:=by omega
      rw [e,hc]
      by_cases hj:j = p
      · subst hj; rw [if_pos rfl,h0]
      · rw [if_neg hj]
        rcases Nat.lt_or_gt_of_ne hj with q | q
        · exact (tb_add_lt q).symm
        · exact (tb_add_gt q h0).symm
theorem putBit_lt {b p n:Nat} {v:Bool} (hb:b < 2 ^ n) (hp:p < n):putBit b p v < 2 ^ n:=by
  refine Nat.lt_pow_two_of_testBit _ fun i hi=>?_
  rw [putBit_bit,if_neg (by omega)]
  exact Nat.testBit_lt_two_pow (Nat.lt_of_lt_of_le hb (Nat.pow_le_pow_right (by decide) hi))
def IsTab (n:Nat) (N:Nat) (f:Nat→Bool):Prop:=∀ b,N.testBit b = (decide (b < 2 ^ n) && f b)
theorem tab_all (n:Nat):IsTab n (2 ^ 2 ^ n - 1) (fun _=>true):=fun b=>by
  rw [Nat.testBit_two_pow_sub_one,Bool.and_true]
theorem tab_zero (n:Nat):IsTab n 0 (fun _=>false):=fun b=>by simp
theorem tab_xor {n N M:Nat} {f g:Nat→Bool} (h:IsTab n N f) (k:IsTab n M g):IsTab n (N ^^^ M) (fun b=>f b != g b):=fun b=>by
  rw [Nat.testBit_xor,h b,k b]
  show _ = (decide (b < 2 ^ n) && (f b != g b))
  cases decide (b < 2 ^ n) <;> cases f b <;> cases g b <;> rfl
theorem tab_and {n N M:Nat} {f g:Nat→Bool} (h:IsTab n N f) (k:IsTab n M g):IsTab n (N &&& M) (fun b=>f b && g b):=fun b=>by
  rw [Nat.testBit_and,h b,k b]
  show _ = (decide (b < 2 ^ n) && (f b && g b))
  cases decide (b < 2 ^ n) <;> cases f b <;> cases g b <;> rfl
theorem tab_or {n N M:Nat} {f g:Nat→Bool} (h:IsTab n N f) (k:IsTab n M g):IsTab n (N ||| M) (fun b=>f b || g b):=fun b=>by
  rw [Nat.testBit_or,h b,k b]
  show _ = (decide (b < 2 ^ n) && (f b || g b))
  cases decide (b < 2 ^ n) <;> cases f b <;> cases g b <;> rfl
theorem tab_congr {n N:Nat} {f g:Nat→Bool} (h:IsTab n N f) (e:∀ b,b < 2 ^ n→f b = g b):IsTab n N g:=fun b=>by
  rw [h b]
  by_cases hb:b < 2 ^ n
  · rw [e b hb]
  · rw [decide_eq_false hb]; rfl
theorem tab_lt {n N:Nat} {f:Nat→Bool} (h:IsTab n N f):N < 2 ^ 2 ^ n:=Nat.lt_pow_two_of_testBit _ fun i hi=>by
  rw [h i,decide_eq_false (by omega)]; rfl
theorem tab_block (p:Nat):IsTab (p + 1) ((2 ^ 2 ^ p - 1) * 2 ^ 2 ^ p) (fun b=>b.testBit p):=fun b=>by
  rw [Nat.testBit_mul_two_pow,Nat.testBit_two_pow_sub_one]
  show _ = (decide (b < 2 ^ (p + 1)) && b.testBit p)
  have hp:2 ^ (p + 1) = 2 ^ p + 2 ^ p:=by rw [Nat.pow_succ]; omega
  by_cases h1:2 ^ p≤b
  · by_cases h2:b < 2 ^ (p + 1)
    · have e:b.testBit p = true:=by
        obtain ⟨c,rfl⟩:∃ c,b = c + 2 ^ p:=⟨b - 2 ^ p,by omega⟩
        rw [tb_add_same,Nat.testBit_lt_two_pow (by omega)]
        rfl
      rw [e]
      simp [h1,h2]
      omega
    · simp [h2]
      intro _
      omega
  · have e:b.testBit p = false:=Nat.testBit_lt_two_pow (by omega)
    rw [e]
    simp [h1]
theorem tab_double {p m N:Nat} (hp:p < m) (h:IsTab m N (fun b=>b.testBit p)):IsTab (m + 1) (N ||| N * 2 ^ 2 ^ m) (fun b=>b.testBit p):=fun b=>by
  rw [Nat.testBit_or,Nat.testBit_mul_two_pow,h b,h (b - 2 ^ m)]
  show (_ || (_ && (_ && (b - 2 ^ m).testBit p))) = (decide (b < 2 ^ (m + 1)) && b.testBit p)
  have hm:2 ^ (m + 1) = 2 ^ m + 2 ^ m:=by rw [Nat.pow_succ]; omega
  by_cases h1:b < 2 ^ m
  · have h2:b < 2 ^ (m + 1):=by omega
    have h3:¬ 2 ^ m≤b:=by omega
    simp [h1,h2,h3]
  · have h3:2 ^ m≤b:=by omega
    have e:(b - 2 ^ m).testBit p = b.testBit p:=by
      obtain ⟨c,rfl⟩:∃ c,b = c + 2 ^ m:=⟨b - 2 ^ m,by omega⟩
      rw [tb_add_lt hp,Nat.add_sub_cancel]
    rw [e]
    by_cases h2:b < 2 ^ (m + 1)
    · have h4:b - 2 ^ m < 2 ^ m:=by omega
      simp [h1,h2,h3,h4]
    · have h4:¬ b - 2 ^ m < 2 ^ m:=by omega
      simp [h1,h2,h3,h4]
theorem tab_flip {n p N R:Nat} {f:Nat→Bool} (hp:p < n) (h:IsTab n N f) (r:IsTab n R (fun b=>b.testBit p)) :
    IsTab n ((N &&& R) / 2 ^ 2 ^ p ||| (N ^^^ (N &&& R)) * 2 ^ 2 ^ p) (fun b=>f (putBit b p (!b.testBit p))):=fun b=>by
  have o:=tab_and h r
  have z:=tab_xor h o
  have pp:=Nat.two_pow_pos p
  rw [Nat.testBit_or,Nat.testBit_mul_two_pow,Nat.testBit_div_two_pow,o,z]
  dsimp only
  by_cases hb:b < 2 ^ n
  · cases hbit:b.testBit p with
    | false =>
      have e:putBit b p (!false) = b + 2 ^ p:=by
        unfold putBit
        rw [hbit,if_neg (by decide),if_pos (by decide)]
      have lt:b + 2 ^ p < 2 ^ n:=by rw [← e]; exact putBit_lt hb hp
      rw [e,tb_add_same,hbit]
      by_cases h1:2 ^ p≤b
      · have e2:(b - 2 ^ p).testBit p = true:=by
          obtain ⟨c,rfl⟩:∃ c,b = c + 2 ^ p:=⟨b - 2 ^ p,by omega⟩
          rw [tb_add_same] at hbit
          rw [Nat.add_sub_cancel]
          simpa using hbit
        rw [e2]
        have h4:b - 2 ^ p < 2 ^ n:=by omega
        simp [hb,lt,h1,h4]
      · simp [hb,lt,h1]
    | true =>
      have ge:=ge_of_bit hbit
      have e:putBit b p (!true) = b - 2 ^ p:=by
        unfold putBit
        rw [hbit,if_neg (by decide),if_neg (by decide)]
      have e2:(b - 2 ^ p).testBit p = false:=by
        obtain ⟨c,rfl⟩:∃ c,b = c + 2 ^ p:=⟨b - 2 ^ p,by omega⟩
        rw [tb_add_same] at hbit
        rw [Nat.add_sub_cancel]
        simpa using hbit
      rw [e,tb_add_same,hbit,e2]
      have h4:b - 2 ^ p < 2 ^ n:=by omega
      simp [hb,ge,h4]
  · have h3:¬ b + 2 ^ p < 2 ^ n:=by omega
    have h5:(decide (2 ^ p≤b) && (decide (b - 2 ^ p < 2 ^ n) && (f (b - 2 ^ p) != (f (b - 2 ^ p) && (b - 2 ^ p).testBit p)))) = false:=by
      by_cases h1:2 ^ p≤b
      · by_cases h4:b - 2 ^ p < 2 ^ n
        · -- b lies at or beyond 2 ^ n,less 2 ^ p below it: its bit p is 1
          have e:(b - 2 ^ p).testBit p = true:=by
            cases q:(b - 2 ^ p).testBit p with
            | true=>rfl
            | false =>
              exfalso
              have l:=putBit_lt (v:=true) h4 hp
              unfold putBit at l
              rw [q,if_neg (by decide),if_pos rfl] at l
              omega
          rw [e]
          cases f (b - 2 ^ p) <;> simp
        · simp [h4]
      · simp [h1]
    rw [h5]
    simp [hb,h3]
end Sen
namespace Sen
open PySem
theorem tb0 (a:Nat):a % 2 = (a.testBit 0).toNat:=by
  rw [Nat.testBit_zero]
  have:=Nat.mod_two_eq_zero_or_one a
  rcases this with h | h <;> rw [h] <;> rfl
theorem xor_add:∀ (n a b:Nat),a≤n→(a ^^^ b) + 2 * (a &&& b) = a + b
  | 0,a,b,h=>by
    have:a = 0:=by omega
    subst this; simp
  | n + 1,a,b,h=>by
    by_cases h0:a = 0
    · subst h0; simp
    · have ih:=xor_add n (a / 2) (b / 2) (by omega)
      have e1:(a ^^^ b) / 2 = a / 2 ^^^ b / 2:=Nat.xor_div_two
      have e2:(a &&& b) / 2 = a / 2 &&& b / 2:=Nat.and_div_two
      have d1:=Nat.div_add_mod (a ^^^ b) 2
      have d2:=Nat.div_add_mod (a &&& b) 2
      have d3:=Nat.div_add_mod a 2
      have d4:=Nat.div_add_mod b 2
      rw [e1] at d1
      rw [e2] at d2
      cases ha:a.testBit 0 <;> cases hb:b.testBit 0
      · have m1:(a ^^^ b) % 2 = 0:=by rw [tb0,Nat.testBit_xor,ha,hb]; rfl
        have m2:(a &&& b) % 2 = 0:=by rw [tb0,Nat.testBit_and,ha,hb]; rfl
        have m3:a % 2 = 0:=by rw [tb0,ha]; rfl
        have m4:b % 2 = 0:=by rw [tb0,hb]; rfl
        omega
      · have m1:(a ^^^ b) % 2 = 1:=by rw [tb0,Nat.testBit_xor,ha,hb]; rfl
        have m2:(a &&& b) % 2 = 0:=by rw [tb0,Nat.testBit_and,ha,hb]; rfl
        have m3:a % 2 = 0:=by rw [tb0,ha]; rfl
        have m4:b % 2 = 1:=by rw [tb0,hb]; rfl
        omega
      · have m1:(a ^^^ b) % 2 = 1:=by rw [tb0,Nat.testBit_xor,ha,hb]; rfl
        have m2:(a &&& b) % 2 = 0:=by rw [tb0,Nat.testBit_and,ha,hb]; rfl
        have m3:a % 2 = 1:=by rw [tb0,ha]; rfl
        have m4:b % 2 = 0:=by rw [tb0,hb]; rfl
        omega
      · have m1:(a ^^^ b) % 2 = 0:=by rw [tb0,Nat.testBit_xor,ha,hb]; rfl
        have m2:(a &&& b) % 2 = 1:=by rw [tb0,Nat.testBit_and,ha,hb]; rfl
        have m3:a % 2 = 1:=by rw [tb0,ha]; rfl
        have m4:b % 2 = 1:=by rw [tb0,hb]; rfl
        omega
theorem or_add:∀ (n a b:Nat),a≤n→(a ||| b) + (a &&& b) = a + b
  | 0,a,b,h=>by
    have:a = 0:=by omega
    subst this; simp
  | n + 1,a,b,h=>by
    by_cases h0:a = 0
    · subst h0; simp
    · have ih:=or_add n (a / 2) (b / 2) (by omega)
      have e1:(a ||| b) / 2 = a / 2 ||| b / 2:=Nat.or_div_two
      have e2:(a &&& b) / 2 = a / 2 &&& b / 2:=Nat.and_div_two
      have d1:=Nat.div_add_mod (a ||| b) 2
      have d2:=Nat.div_add_mod (a &&& b) 2
      have d3:=Nat.div_add_mod a 2
      have d4:=Nat.div_add_mod b 2
      rw [e1] at d1
      rw [e2] at d2
      cases ha:a.testBit 0 <;> cases hb:b.testBit 0
      · have m1:(a ||| b) % 2 = 0:=by rw [tb0,Nat.testBit_or,ha,hb]; rfl
        have m2:(a &&& b) % 2 = 0:=by rw [tb0,Nat.testBit_and,ha,hb]; rfl
        have m3:a % 2 = 0:=by rw [tb0,ha]; rfl
        have m4:b % 2 = 0:=by rw [tb0,hb]; rfl
        omega
      · have m1:(a ||| b) % 2 = 1:=by rw [tb0,Nat.testBit_or,ha,hb]; rfl
        have m2:(a &&& b) % 2 = 0:=by rw [tb0,Nat.testBit_and,ha,hb]; rfl
        have m3:a % 2 = 0:=by rw [tb0,ha]; rfl
        have m4:b % 2 = 1:=by rw [tb0,hb]; rfl
        omega
      · have m1:(a ||| b) % 2 = 1:=by rw [tb0,Nat.testBit_or,ha,hb]; rfl
        have m2:(a &&& b) % 2 = 0:=by rw [tb0,Nat.testBit_and,ha,hb]; rfl
        have m3:a % 2 = 1:=by rw [tb0,ha]; rfl
        have m4:b % 2 = 0:=by rw [tb0,hb]; rfl
        omega
      · have m1:(a ||| b) % 2 = 1:=by rw [tb0,Nat.testBit_or,ha,hb]; rfl
        have m2:(a &&& b) % 2 = 1:=by rw [tb0,Nat.testBit_and,ha,hb]; rfl
        have m3:a % 2 = 1:=by rw [tb0,ha]; rfl
        have m4:b % 2 = 1:=by rw [tb0,hb]; rfl
        omega
theorem andI (a b:Nat):Builtin.bitAnd (a:Int) (b:Int) = ((a &&& b:Nat):Int):=by
  unfold Builtin.bitAnd
  rw [decide_eq_true (Int.natCast_nonneg a),decide_eq_true (Int.natCast_nonneg b)]
  simp
theorem orI (a b:Nat):Builtin.bitOr (a:Int) (b:Int) = ((a ||| b:Nat):Int):=by
  rw [PyProof.Rows.bitOr_and,andI]
  have:=or_add a a b (Nat.le_refl _)
  omega
theorem xorI (a b:Nat):Builtin.bitXor (a:Int) (b:Int) = ((a ^^^ b:Nat):Int):=by
  rw [PyProof.Rows.bitXor_and,andI]
  have:=xor_add a a b (Nat.le_refl _)
  omega
theorem powI (n:Nat):(2:Int) ^ n = ((2 ^ n:Nat):Int):=by simp
end Sen
namespace L2
open PySem PySem.Spec PyProof.Rows Sen
section
variable {X:Cx}
def rShlN:R2:=fun x y H Q=>∃ a n:Nat,x = .int a∧y = .int n∧a < 2 ^ 10000∧n≤10000∧Q (.int (a * 2 ^ n:Nat)) H
theorem op_shlN:OpR X (binaryOp .LShift) rShlN:=by
  intro pins s σ H x y v u Q I rx ry h
  obtain ⟨a,n,rfl,rfl,ha,hn,q⟩:=h
  obtain ⟨t,rfl⟩:=rx
  obtain ⟨t',rfl⟩:=ry
  have hb:Builtin.Int.intBits (a:Int)≤10000:=intBits_le (by simpa using ha)
  refine lshift_int (Int.natCast_nonneg n) ?_ ?_
  · have e:(2:Int) ^ 27 = 134217728:=by decide
    rw [e]; omega
  · rw [Int.toNat_natCast]
    have e:(a:Int) * 2 ^ n = ((a * 2 ^ n:Nat):Int):=by rw [powI,Int.natCast_mul]
    rw [e]
    exact ⟨.int (a * 2 ^ n:Nat),H,I.tok _,⟨_,rfl⟩,q⟩
def rShrN:R2:=fun x y H Q=>∃ a n:Nat,x = .int a∧y = .int n∧Q (.int (a / 2 ^ n:Nat)) H
theorem op_shrN:OpR X (binaryOp .RShift) rShrN:=by
  intro pins s σ H x y v u Q I rx ry h
  obtain ⟨a,n,rfl,rfl,q⟩:=h
  refine op_shr pins s σ H _ _ v u Q I rx ry ⟨_,_,rfl,rfl,Int.natCast_nonneg n,?_⟩
  show Q (.int ((a:Int) / 2 ^ (n:Int).toNat)) H
  rw [Int.toNat_natCast,powI,← Int.natCast_ediv]
  exact q
def rN2 (g:Nat→Nat→Nat):R2:=fun x y H Q=>∃ a b:Nat,x = .int a∧y = .int b∧Q (.int (g a b:Nat)) H
theorem op_andN:OpR X (binaryOp .BitAnd) (rN2 (· &&& ·)):=by
  intro pins s σ H x y v u Q I rx ry h
  obtain ⟨a,b,rfl,rfl,q⟩:=h
  exact op_and pins s σ H _ _ v u Q I rx ry ⟨_,_,rfl,rfl,by show Q (.int (Builtin.bitAnd a b)) H; rw [andI]; exact q⟩
theorem op_orN:OpR X (binaryOp .BitOr) (rN2 (· ||| ·)):=by
  intro pins s σ H x y v u Q I rx ry h
  obtain ⟨a,b,rfl,rfl,q⟩:=h
  exact op_or pins s σ H _ _ v u Q I rx ry ⟨_,_,rfl,rfl,by show Q (.int (Builtin.bitOr a b)) H; rw [orI]; exact q⟩
theorem op_xorN:OpR X (binaryOp .BitXor) (rN2 (· ^^^ ·)):=by
  intro pins s σ H x y v u Q I rx ry h
  obtain ⟨a,b,rfl,rfl,q⟩:=h
  exact op_xor pins s σ H _ _ v u Q I rx ry ⟨_,_,rfl,rfl,by show Q (.int (Builtin.bitXor a b)) H; rw [xorI]; exact q⟩
end
end L2
namespace L2
open PySem PySem.Spec PyProof.Rows
def strsOf:List Expr→Option (List Str)
  | []=>some []
  | .Constant (.str x) _ _ :: r=>(strsOf r).map (x :: ·)
  | _=>none
theorem strsOf_cons {e:Expr} {r:List Expr} {xs:List Str} (h:strsOf (e :: r) = some xs):∃ x j p ys,e = .Constant (.str x) j p∧strsOf r = some ys∧xs = x :: ys:=by
  cases e with
  | Constant c j p =>
    cases c with
    | str x =>
      have h':(strsOf r).map (x :: ·) = some xs:=h
      cases hr:strsOf r with
      | none=>rw [hr] at h'; cases h'
      | some ys =>
        rw [hr] at h'
        exact ⟨x,j,p,ys,rfl,rfl,(Option.some.inj h').symm⟩
    | _=>cases h
  | _=>cases h
def tStrs (xs:List Str):TA:=fun _ H Q=>Q (xs.map V.str) H
def tStrL (xs:List Str):TE:=fun _ H Q=>xs.length≤sizeLine∧∀ p,H p = none→Q (.ref p) (upd H p (.lst (xs.map V.str)))
section
variable {X:Cx}
theorem pa_strs {es:List Expr}:∀ {xs:List Str},strsOf es = some xs→PA X es (tStrs xs):=by
  induction es with
  | nil =>
    intro xs h
    cases h
    exact fun pos pins s σ H Q I q=>pa_nil pos pins s σ H Q I q
  | cons e r ih =>
    intro xs h
    obtain ⟨x,j,p,ys,rfl,hr,rfl⟩:=strsOf_cons h
    exact fun pos pins s σ H Q I q=>pa_cons (pe_str (x:=x) (j:=j) (pos:=p)) (ih hr) rfl pos pins s σ H Q I q
theorem pe_strs {es:List Expr} {pos:Pos} {xs:List Str} (h:strsOf es = some xs):PE X (.List es pos) (tStrL xs):=by
  intro pins s σ H Q I q
  refine pe_lst (pa_strs h) pins s σ H Q I ⟨?_,q.2⟩
  rw [List.length_map]; exact q.1
def litAsg:Stmt→Option (Str × List Str)
  | .Assign [.Name x _] (.List es _) _=>(strsOf es).map (x,·)
  | _=>none
theorem litAsg_shape {st:Stmt} {x:Str} {xs:List Str} (h:litAsg st = some (x,xs)):∃ p es q r,st = .Assign [.Name x p] (.List es q) r∧strsOf es = some xs:=by
  unfold litAsg at h
  split at h
  · rename_i y p es q r
    cases hs:strsOf es with
    | none=>rw [hs] at h; cases h
    | some ys =>
      rw [hs] at h
      cases h
      exact ⟨_,_,_,_,rfl,hs⟩
  · cases h
theorem ps_litL {i:Nat} {x:Str} {xs:List Str} {st:Stmt} (h:litAsg st = some (x,xs)) (hN:X.N.Nodup) (hi:X.N[i]? = some x) (hx:Loc X.env.scope x) (hf:X.fn x = true∨X.env.scope.names.lookup x = some .local):PS X st (tAsg (tStrL xs) (gName i)):=by
  obtain ⟨p,es,q,r,rfl,hs⟩:=litAsg_shape h
  exact ps_set hN hi hx (pe_strs hs) rfl hf
end
end L2
set_option exponentiation.threshold 20000
namespace Sen
open PySem L2
section
variable {K:PySem.W.Frag}
theorem lt10k {a k:Nat} (h:a < 2 ^ k) (hk:k≤10000):a < 2 ^ 10000:=Nat.lt_of_lt_of_le h (Nat.pow_le_pow_right (by decide) hk)
theorem two8 {n:Nat} (hn:n≤8):2 ^ n≤256:=Nat.pow_le_pow_right (n:=2) (by decide) hn
inductive spAllRows (vs:List V) (H:Hp) (Q:VK) (E9:XK):Prop
  | mk (n:Nat) (_:vs = [.int n]) (_:n≤8) (_:Q (.int ((2 ^ 2 ^ n - 1:Nat):Int)) H):spAllRows vs H Q E9
inductive spRowsWith (vs:List V) (H:Hp) (Q:VK) (E9:XK):Prop
  | mk (p n:Nat) (_:vs = [.int p,.int n]) (_:p < n) (_:n≤8) (_:∀ R:Nat,IsTab n R (fun b=>b.testBit p)→Q (.int R) H):spRowsWith vs H Q E9
inductive spFlipped (vs:List V) (H:Hp) (Q:VK) (E9:XK):Prop
  | mk (N p n:Nat) (f:Nat→Bool) (_:vs = [.int N,.int p,.int n]) (_:p < n) (_:n≤8) (_:IsTab n N f) (_:∀ R:Nat,IsTab n R (fun b=>f (putBit b p (!b.testBit p)))→Q (.int R) H):spFlipped vs H Q E9
theorem same_new {H:Hp} {p:Addr} (h:H p = none) (o:HO):Same H (upd H p o):=fun b u q=>by rw [upd_ne (ne_of_none q h)]; exact q
inductive spCellAt (K:PySem.W.Frag) (vs:List V) (H:Hp) (Q:VK) (E9:XK):Prop
  | mk (l:Addr) (ns:List Int) (i:Int) (_:vs = [.ref l,.int i]) (_:SqL K H l (ns.map V.int)) (_:0≤i) (_:∀ v:Int,Q (.int v) H):spCellAt K vs H Q E9
inductive spDraw (vs:List V) (H:Hp) (Q:VK) (E9:XK):Prop
  | mk (c:Int) (k:Nat) (b:Int) (_:vs = [.int c,.int k,.int b]) (_:k≤40) (_:0 < b) (_:b < 1073741824) (_:∀ r:Int,0≤r→r < b→Q (.int r) H):spDraw vs H Q E9
def letts:List Str:=["a", "b", "c", "d", "e", "f", "g", "h"]
structure IsOrd (os:List Str):Prop where
  nd:os.Nodup
  mem:∀ x∈os,x∈letts
  pos:0 < os.length
theorem nodup_le {α:Type} [DecidableEq α]:∀ {xs ys:List α},xs.Nodup→(∀ x∈xs,x∈ys)→xs.length≤ys.length
  | [],_,_,_=>Nat.zero_le _
  | x :: xs,ys,nd,h=>by
    obtain ⟨h1,h2⟩:=List.nodup_cons.mp nd
    have hx:=h x List.mem_cons_self
    have ih:=nodup_le (xs:=xs) (ys:=ys.erase x) h2 fun y hy=>(List.mem_erase_of_ne (fun e:y = x=>h1 (by rw [← e]; exact hy))).mpr (h y (List.mem_cons_of_mem _ hy))
    rw [List.length_erase_of_mem hx] at ih
    have:=List.length_pos_of_mem hx
    rw [List.length_cons]
    omega
theorem lett_at {i:Nat} (h:i < 8):∃ c,atI (Str.ofString "abcdefgh").cps.toList (i:Int) = some c∧letts[i]? = some ⟨#[c]⟩:=by
  match i,h with
  | 0,_=>exact ⟨97,by decide +kernel,by decide +kernel⟩
  | 1,_=>exact ⟨98,by decide +kernel,by decide +kernel⟩
  | 2,_=>exact ⟨99,by decide +kernel,by decide +kernel⟩
  | 3,_=>exact ⟨100,by decide +kernel,by decide +kernel⟩
  | 4,_=>exact ⟨101,by decide +kernel,by decide +kernel⟩
  | 5,_=>exact ⟨102,by decide +kernel,by decide +kernel⟩
  | 6,_=>exact ⟨103,by decide +kernel,by decide +kernel⟩
  | 7,_=>exact ⟨104,by decide +kernel,by decide +kernel⟩
theorem letts_nodup:letts.Nodup:=by decide +kernel
theorem lett_new {i:Nat} {y:Str} (h:letts[i]? = some y):y ∉ letts.take i:=fun hm=>by
  obtain ⟨j,hj⟩:=List.getElem?_of_mem hm
  have hlt:j < i:=by
    have:=(List.getElem?_eq_some_iff.mp hj).1
    rw [List.length_take] at this
    omega
  rw [List.getElem?_take_of_lt hlt] at hj
  have h1:=(List.getElem?_eq_some_iff.mp hj)
  have h2:=(List.getElem?_eq_some_iff.mp h)
  obtain ⟨l1,e1⟩:=h1
  obtain ⟨l2,e2⟩:=h2
  have:=(List.getElem_inj letts_nodup).mp (e1.trans e2.symm)
  omega
theorem IsOrd.le {os:List Str} (h:IsOrd os):os.length≤8:=nodup_le h.nd h.mem
inductive spOrder (vs:List V) (H:Hp) (Q:VK) (E9:XK):Prop
  | mk (c:Int) (n:Nat) (_:vs = [.int c,.int n]) (_:0 < n) (_:n≤8) (_:∀ (l:Addr) (H':Hp) (os:List Str),Same H H'→H' l = some (.lst (os.map V.str))→IsOrd os→os.length≤n→Q (.ref l) H'):spOrder vs H Q E9
def IsS (H:Hp):Sn→Addr→Prop
  | .c0 y,p=>H p = some (.tup [.str (Sn.word (.c0 y))])
  | .mk x,p=>H p = some (.tup [.str "mark", .str x])
  | .nt s,p=>∃ q,H p = some (.tup [.str "not", .ref q])∧IsS H s q
  | .b2 o s t,p=>∃ q r,H p = some (.tup [.str (w2 o),.ref q,.ref r])∧IsS H s q∧IsS H t r
  | .q1 o x s,p=>∃ q,H p = some (.tup [.str (if o then "some" else "each"),.str x,.ref q])∧IsS H s q
def Tups (H H':Hp):Prop:=∀ b xs,H b = some (.tup xs)→H' b = some (.tup xs)
theorem Tups.trans {H H1 H2:Hp} (a:Tups H H1) (b:Tups H1 H2):Tups H H2:=fun c o h=>b c o (a c o h)
theorem Tups.of {H H':Hp} (g:Same H H'):Tups H H':=fun b xs h=>g b _ h
theorem Tups.new {H:Hp} {p:Addr} (h:H p = none) (o:HO):Tups H (upd H p o):=fun b u q=>by rw [upd_ne (ne_of_none q h)]; exact q
theorem Tups.lst {H:Hp} {p:Addr} {xs:List V} (h:H p = some (.lst xs)) (o:HO):Tups H (upd H p o):=fun b u q=>by rw [upd_ne (ne_of q h (fun z=>nomatch z))]; exact q
theorem IsS.mono {H H':Hp} (g:Tups H H'):∀ {s:Sn} {p:Addr},IsS H s p→IsS H' s p
  | .c0 y,p,h=>g _ _ h
  | .mk x,p,h=>g _ _ h
  | .nt s,p,⟨q,h,k⟩=>⟨q,g _ _ h,k.mono g⟩
  | .b2 o s t,p,⟨q,r,h,k,l⟩=>⟨q,r,g _ _ h,k.mono g,l.mono g⟩
  | .q1 o x s,p,⟨q,h,k⟩=>⟨q,g _ _ h,k.mono g⟩
theorem q1_word (o:Bool) (x:Str) (s:Sn):Sn.word (.q1 o x s) = if o then Str.ofString "some" else Str.ofString "each" := by cases o <;> rfl
theorem IsS.shape {H:Hp}:∀ {s:Sn} {p:Addr},IsS H s p→∃ qs:List Addr,H p = some (.tup (.str s.word :: (s.letters.map V.str ++ qs.map V.ref)))∧Paired (IsS H) s.parts qs
  | .c0 y,p,h=>⟨[],h,.nil⟩
  | .mk x,p,h=>⟨[],h,.nil⟩
  | .nt s,p,⟨q,h,k⟩=>⟨[q],h,.cons k .nil⟩
  | .b2 o s t,p,⟨q,r,h,k,l⟩=>⟨[q,r],h,.cons k (.cons l .nil)⟩
  | .q1 o x s,p,⟨q,h,k⟩=>⟨[q],by rw [q1_word]; exact h,.cons k .nil⟩
theorem atI_has {α:Type} {xs:List α} {i:Int} (h0:-(xs.length:Int)≤i) (h1:i < xs.length):∃ (j:Nat) (v:α),atI xs i = some v∧xs[j]? = some v:=by
  by_cases h:0≤i
  · have hj:i.toNat < xs.length:=by omega
    have q:=atI_nat (xs:=xs) (j:=i.toNat) (List.getElem?_eq_getElem hj)
    have e:((i.toNat:Nat):Int) = i:=by omega
    rw [e] at q
    exact ⟨_,_,q,List.getElem?_eq_getElem hj⟩
  · have hj:(i + xs.length).toNat < xs.length:=by omega
    refine ⟨_,_,?_,List.getElem?_eq_getElem hj⟩
    unfold atI ixN
    rw [if_neg h,if_pos h0]
    show xs[(i + xs.length).toNat]? = _
    exact List.getElem?_eq_getElem hj
def kindsS:List Str:=["mark", "mark", "not", "and", "or", "either", "if", "and", "or", "some", "each", "yes", "no", "mark"]
structure Made (H0 H:Hp) (os:List Str) (m kd:Addr) (ps:List Addr) (d:Nat):Prop where
  old:Same H0 H
  mad:H m = some (.lst (ps.map V.ref))
  kin:H kd = some (.lst (kindsS.map V.str))
  ne:ps≠[]
  all:∀ p∈ps,∃ s,IsS H s p∧s.inO os∧s.depth≤d
theorem Made.push {H0 H:Hp} {os:List Str} {m kd p:Addr} {ps:List Addr} {d:Nat} {xs:List V} (M:Made H0 H os m kd ps d) (fm:H0 m = none) (hp:H p = none) {s:Sn} (hs:IsS (upd H p (.tup xs)) s p) (ho:s.inO os) (hd:s.depth≤d + 1) (hk:m≠kd) :
    Made H0 (upd (upd H p (.tup xs)) m (.lst ((ps ++ [p]).map V.ref))) os m kd (ps ++ [p]) (d + 1):=by
  have hm:m≠p:=ne_of_none M.mad hp
  have hkp:kd≠p:=ne_of_none M.kin hp
  have mad':(upd H p (.tup xs)) m = some (.lst (ps.map V.ref)):=by rw [upd_ne hm]; exact M.mad
  have t1:Tups H (upd H p (.tup xs)):=Tups.new hp _
  have t2:Tups (upd H p (.tup xs)) (upd (upd H p (.tup xs)) m (.lst ((ps ++ [p]).map V.ref))):=Tups.lst mad' _
  refine ⟨fun b o h=>?_,upd_same,?_,by simp,fun q hq=>?_⟩
  · have h1:=M.old b o h
    rw [upd_ne (ne_of_none h fm),upd_ne (ne_of_none h1 hp)]
    exact h1
  · rw [upd_ne (Ne.symm hk),upd_ne hkp]; exact M.kin
  · rcases List.mem_append.mp hq with z | z
    · obtain ⟨s',q1,q2,q3⟩:=M.all q z
      exact ⟨s',(q1.mono t1).mono t2,q2,by omega⟩
    · have z':q = p:=by simpa using z
      subst z'
      exact ⟨s,hs.mono t2,ho,hd⟩
inductive spSentence (K:PySem.W.Frag) (vs:List V) (H:Hp) (Q:VK) (E9:XK):Prop
  | mk (sc ol:Addr) (ns:List Int) (t m:Nat) (os:List Str) (_:vs = [.ref sc,.int t,.int m,.ref ol]) (_:SqL K H sc (ns.map V.int)) (_:SqL K H ol (os.map V.str)) (_:0 < os.length) (_:os.length≤8) (_:0 < m) (_:m≤40) (_:t≤60) (_:∀ (p:Addr) (H':Hp) (s:Sn),Same H H'→IsS H' s p→s.inO os→s.depth≤m→Q (.ref p) H'):spSentence K vs H Q E9
theorem pick_letter {os:List Str} (h0:0 < os.length) (r:Int):∃ x,x∈os∧atI (os.map V.str) (r % ((os.map V.str).length:Nat)) = some (.str x):=by
  have e:(os.map V.str).length = os.length:=List.length_map _
  have m0:0≤r % ((os.map V.str).length:Nat):=Int.emod_nonneg _ (by omega)
  have m1:r % ((os.map V.str).length:Nat) < ((os.map V.str).length:Nat):=Int.emod_lt_of_pos _ (by omega)
  obtain ⟨j,v,q1,q2⟩:=atI_has (xs:=os.map V.str) (i:=r % ((os.map V.str).length:Nat)) (by omega) m1
  rw [List.getElem?_map] at q2
  cases hx:os[j]? with
  | none=>rw [hx] at q2; cases q2
  | some x =>
    rw [hx] at q2
    cases q2
    exact ⟨x,List.mem_of_getElem? hx,q1⟩
theorem pick_made {ps:List Addr} {i:Int} (h0:-(ps.length:Int)≤i) (h1:i < ps.length):∃ p,p∈ps∧atI (ps.map V.ref) i = some (.ref p):=by
  have e:(ps.map V.ref).length = ps.length:=List.length_map _
  obtain ⟨j,v,q1,q2⟩:=atI_has (xs:=ps.map V.ref) (i:=i) (by omega) (by omega)
  rw [List.getElem?_map] at q2
  cases hx:ps[j]? with
  | none=>rw [hx] at q2; cases q2
  | some x =>
    rw [hx] at q2
    cases q2
    exact ⟨x,List.mem_of_getElem? hx,q1⟩
end
end Sen
namespace L2
open PySem
section
variable {α β:Type} {R S:α→β→Prop}
theorem pd_app:∀ {xs ys:List α} {us ws:List β},Paired R xs us→Paired R ys ws→Paired R (xs ++ ys) (us ++ ws)
  | _,_,_,_,.nil,s=>s
  | _,_,_,_,.cons r t,s=>.cons r (pd_app t s)
theorem pd_imp (f:∀ a b,R a b→S a b):∀ {xs:List α} {us:List β},Paired R xs us→Paired S xs us
  | _,_,.nil=>.nil
  | _,_,.cons r t=>.cons (f _ _ r) (pd_imp f t)
theorem pd_len:∀ {xs:List α} {us:List β},Paired R xs us→xs.length = us.length
  | _,_,.nil=>rfl
  | _,_,.cons _ t=>by rw [List.length_cons,List.length_cons,pd_len t]
theorem pd_at:∀ {xs:List α} {us:List β} {i:Nat} {x:α},Paired R xs us→xs[i]? = some x→∃ u,us[i]? = some u∧R x u
  | _,_,_,_,.nil,e=>by simp at e
  | _,_,0,_,.cons r _,e=>by simp at e; subst e; exact ⟨_,rfl,r⟩
  | _,_,i + 1,x,.cons _ t,e=>by
    obtain ⟨u,h1,h2⟩:=pd_at (i:=i) (x:=x) t (by simpa using e)
    exact ⟨u,by simpa using h1,h2⟩
theorem pd_ta:∀ {xs:List α} {us:List β} {i:Nat} {u:β},Paired R xs us→us[i]? = some u→∃ x,xs[i]? = some x∧R x u
  | _,_,_,_,.nil,e=>by simp at e
  | _,_,0,_,.cons r _,e=>by simp at e; subst e; exact ⟨_,rfl,r⟩
  | _,_,i + 1,x,.cons _ t,e=>by
    obtain ⟨u,h1,h2⟩:=pd_ta (i:=i) (u:=x) t (by simpa using e)
    exact ⟨u,by simpa using h1,h2⟩
theorem take_next {α:Type} {xs:List α} {i:Nat} {x:α} (h:xs[i]? = some x):xs.take (i + 1) = xs.take i ++ [x]:=by
  rw [List.take_succ,h]
  rfl
theorem Same.seqT {K:PySem.W.Frag} {H H':Hp} {a:Addr} {xs:List V} (e:Same H H') (h:SqT K H a xs):SqT K H' a xs:=by
  rcases h with (h | ⟨o,h⟩) | h
  · exact .inl (.inl (e _ _ h))
  · exact .inl (.inr ⟨o,e _ _ h⟩)
  · exact .inr h
theorem Same.new {H:Hp} {p:Addr} (h:H p = none) (o:HO):Same H (upd H p o):=fun b u q=>by rw [upd_ne (ne_of_none q h)]; exact q
theorem Same.over {H H':Hp} {p:Addr} (g:Same H H') (h:H p = none) (o:HO):Same H (upd H' p o):=fun b u q=>by rw [upd_ne (ne_of_none q h)]; exact g b u q
theorem at0 {α:Type} {x:α} {xs:List α}:atI (x :: xs) 0 = some x:=atI_nat (j:=0) rfl
theorem at1 {α:Type} {x y:α} {xs:List α}:atI (x :: y :: xs) 1 = some y:=atI_nat (j:=1) rfl
end
section
variable {K:PySem.W.Frag} {a:Addr} {xs:List V} {σ:St} {js:List Nat} {te:TE} {H:Hp} {Qf:Addr→Hp→List V→Prop}
theorem lc_relL (R:V→V→Prop) (hq:SqL K H a xs) (hz:xs.length≤sizeLine)
    (hs:∀ (i:Nat) x H',xs[i]? = some x→Same H H'→te (lcS σ js (some x)) H' fun v H3=>R x v∧Same H H3)
    (me:∀ σ H Q Q',(∀ v H1,Q v H1→Q' v H1)→te σ H Q→te σ H Q')
    (hd:∀ ys H' p,Paired R xs ys→Same H H'→H' p = none→Qf p H' ys) :
    ∃ W:Nat→Nat→List V→Hp→Prop,(∃ m,W 0 m [] H)∧∀ i m ys H,W i m ys H →
      ((Itl K a).stop i H∧∀ p,H p = none→Qf p H ys) ∨
      ((Itl K a).go i H∧ys.length < sizeLine∧∀ x H',(Itl K a).yld i H x H'→tYes (lcS σ js (some x)) H' fun b H2 =>
        if b = true then te (lcS σ js (some x)) H2 fun v H3=>∃ m',m' < m∧W (i + 1) m' (ys ++ [v]) H3 else ∃ m',m' < m∧W (i + 1) m' ys H2):=by
  refine lc_list (fun i ys H'=>Same H H'∧Paired R (xs.take i) ys) ⟨Same.refl _,.nil⟩ hz ?_ ?_ (fun _ _ _ _ h q=>h _ _ q) me ?_
  · rintro i ys H' hi ⟨g,r⟩
    have:=pd_len r
    rw [List.length_take] at this
    exact ⟨g.seq hq,by omega⟩
  · rintro i x ys H' hx ⟨g,r⟩
    show te (lcS σ js (some x)) H' fun v H3=>Same H H3∧Paired R (xs.take (i + 1)) (ys ++ [v])
    refine me _ _ _ _ (fun v H3 h3=>⟨h3.2,?_⟩) (hs i x H' hx g)
    rw [take_next hx]
    exact pd_app r (.cons h3.1 .nil)
  · rintro ys H' p ⟨g,r⟩ hp
    rw [List.take_length] at r
    exact hd ys H' p r g hp
theorem lc_relT (R:V→V→Prop) (hq:SqT K H a xs) (hz:xs.length≤sizeLine)
    (hs:∀ (i:Nat) x H',xs[i]? = some x→Same H H'→te (lcS σ js (some x)) H' fun v H3=>R x v∧Same H H3)
    (me:∀ σ H Q Q',(∀ v H1,Q v H1→Q' v H1)→te σ H Q→te σ H Q')
    (hd:∀ ys H' p,Paired R xs ys→Same H H'→H' p = none→Qf p H' ys) :
    ∃ W:Nat→Nat→List V→Hp→Prop,(∃ m,W 0 m [] H)∧∀ i m ys H,W i m ys H →
      ((Itt K a).stop i H∧∀ p,H p = none→Qf p H ys) ∨
      ((Itt K a).go i H∧ys.length < sizeLine∧∀ x H',(Itt K a).yld i H x H'→tYes (lcS σ js (some x)) H' fun b H2 =>
        if b = true then te (lcS σ js (some x)) H2 fun v H3=>∃ m',m' < m∧W (i + 1) m' (ys ++ [v]) H3 else ∃ m',m' < m∧W (i + 1) m' ys H2):=by
  refine lc_tup (fun i ys H'=>Same H H'∧Paired R (xs.take i) ys) ⟨Same.refl _,.nil⟩ hz ?_ ?_ (fun _ _ _ _ h q=>h _ _ q) me ?_
  · rintro i ys H' hi ⟨g,r⟩
    have:=pd_len r
    rw [List.length_take] at this
    exact ⟨g.seqT hq,by omega⟩
  · rintro i x ys H' hx ⟨g,r⟩
    show te (lcS σ js (some x)) H' fun v H3=>Same H H3∧Paired R (xs.take (i + 1)) (ys ++ [v])
    refine me _ _ _ _ (fun v H3 h3=>⟨h3.2,?_⟩) (hs i x H' hx g)
    rw [take_next hx]
    exact pd_app r (.cons h3.1 .nil)
  · rintro ys H' p ⟨g,r⟩ hp
    rw [List.take_length] at r
    exact hd ys H' p r g hp
theorem pd_map {f:V→V}:∀ {xs ys:List V},Paired (fun x v=>v = f x) xs ys→ys = xs.map f
  | _,_,.nil=>rfl
  | _,_,.cons r t=>by rw [List.map_cons,r,pd_map t]
end
section
variable {X:Cx} {K:PySem.W.Frag} {a:Expr} {ta:TE}
theorem call_isinstK (h:X.K = K):CallR X (.builtin "isinstance") (fun xs H Q=>∃ x T t b,xs = [x,.ty T]∧TyOf K H x t∧PySem.W.kitOne K t (.type T) = some b∧Q (.bl b) H):=by subst h; exact call_isinst
theorem ix_listK (h:X.K = K):IxR X (rIxL K):=by subst h; exact ix_list
theorem ix_tupK (h:X.K = K):IxR X (rIxT K):=by subst h; exact ix_tup
theorem pt_truthK (h:X.K = K) (ha:PE X a ta) (he:∀ whole,isTrue a X.env whole = (do let v ← whole; standAt a.pos; holding [v] (truthy v))):PT X a (fun σ H Q=>ta σ H fun x H'=>∃ k,TruV K x H' k∧Q k H'):=by subst h; exact pt_truth ha he
def SpMono (sp:Sp):Prop:=∀ vs H Q Q' E,(∀ v H1,Q v H1→Q' v H1)→sp vs H Q E→sp vs H Q' E
theorem mono1 {sp:Sp} (m:SpMono sp):∀ σ H Q Q',(∀ v H1,Q v H1→Q' v H1)→tCall sp [] E0 (tCons (tVar 0) tNil) σ H Q→tCall sp [] E0 (tCons (tVar 0) tNil) σ H Q' :=
  fun σ H Q Q' h ⟨v,e,q⟩=>⟨v,e,m _ _ _ _ _ h q⟩
theorem inV_strs (x:Str) (ts:List Str):inV (.str x) (ts.map V.str) = decide (x∈ts):=by
  induction ts with
  | nil=>rfl
  | cons t r ih =>
    have e:inV (.str x) ((t :: r).map V.str) = ((t == x) || inV (.str x) (r.map V.str)):=rfl
    rw [e,ih]
    by_cases h:t = x
    · subst h; simp
    · have h':¬ x = t:=fun z=>h z.symm
      simp [h,h']
theorem flat_strs (ts:List Str):(ts.map V.str).all flatV = true:=by
  rw [List.all_map,List.all_eq_true]
  exact fun _ _=>rfl
theorem cut_fore {w:V} {rest:List V} {m n:Nat} (h:rest.length = m + n):cutV (w :: rest) (some 1) (some (1 + (m:Int))) = rest.take m:=by
  have e1:HT.sIx (w :: rest).length 0 (some 1) = min 1 (w :: rest).length:=HT.sIx_nat _ _ 1
  have e2:HT.sIx (w :: rest).length (w :: rest).length (some (1 + (m:Int))) = min (1 + m) (w :: rest).length:=by
    have z:(1:Int) + (m:Int) = ((1 + m:Nat):Int):=by omega
    rw [z]; exact HT.sIx_nat _ _ _
  have l:(w :: rest).length = m + n + 1:=by rw [List.length_cons,h]
  unfold cutV
  rw [e1,e2,l,Nat.min_eq_left (by omega),Nat.min_eq_left (by omega),List.drop_one,List.tail_cons]
  congr 1
  omega
theorem cut_rear {w:V} {rest:List V} {m n:Nat} (h:rest.length = m + n):cutV (w :: rest) (some (1 + (m:Int))) none = rest.drop m:=by
  have e2:HT.sIx (w :: rest).length 0 (some (1 + (m:Int))) = min (1 + m) (w :: rest).length:=by
    have z:(1:Int) + (m:Int) = ((1 + m:Nat):Int):=by omega
    rw [z]; exact HT.sIx_nat _ _ _
  have l:(w :: rest).length = m + n + 1:=by rw [List.length_cons,h]
  unfold cutV
  rw [e2,HT.sIx_none,l,Nat.min_eq_left (by omega),Nat.add_comm 1 m,List.drop_succ_cons,List.take_of_length_le]
  rw [List.length_drop,h]
  omega
theorem not_whole1 {w:V} {rest:List V} {i:Int} {o:Option Int} (h:1≤i):¬ (HT.sIx (w :: rest).length 0 (some i) = 0∧HT.sIx (w :: rest).length (w :: rest).length o = (w :: rest).length):=by
  rintro ⟨h1,_⟩
  have e:HT.sIx (w :: rest).length 0 (some i) = min i.toNat (w :: rest).length:=by
    have z:=HT.sIx_nat (w :: rest).length 0 i.toNat
    have z2:((i.toNat:Nat):Int) = i:=by omega
    rw [z2] at z
    exact z
  rw [e,List.length_cons] at h1
  omega
end
end L2
namespace Sen
open PySem L2
section
variable {K:PySem.W.Frag}
def Sn.all:Sn→List Str
  | .c0 _=>[]
  | .mk x=>[x]
  | .nt s=>s.all
  | .b2 _ s t=>s.all ++ t.all
  | .q1 _ x s=>x :: s.all
theorem Sn.all_iff:∀ (s:Sn) (x:Str),x∈s.all↔x∈s.letters∨∃ t∈s.parts,x∈t.all
  | .c0 _,x=>by simp [Sn.all,Sn.letters,Sn.parts]
  | .mk y,x=>by simp [Sn.all,Sn.letters,Sn.parts]
  | .nt s,x=>by simp [Sn.all,Sn.letters,Sn.parts]
  | .b2 _ s t,x=>by simp [Sn.all,Sn.letters,Sn.parts]
  | .q1 _ y s,x=>by simp [Sn.all,Sn.letters,Sn.parts]
theorem Sn.inO_iff {os:List Str}:∀ (s:Sn),s.inO os↔∀ x∈s.all,x∈os
  | .c0 _=>by simp [Sn.all,Sn.inO]
  | .mk y=>by simp [Sn.all,Sn.inO]
  | .nt s=>by simp only [Sn.all,Sn.inO]; exact Sn.inO_iff s
  | .b2 _ s t=>by
    simp only [Sn.all,Sn.inO,List.mem_append]
    rw [Sn.inO_iff s,Sn.inO_iff t]
    exact ⟨fun h x hx=>hx.elim (h.1 x) (h.2 x),fun h=>⟨fun x hx=>h x (.inl hx),fun x hx=>h x (.inr hx)⟩⟩
  | .q1 _ y s=>by
    simp only [Sn.all,Sn.inO,List.mem_cons]
    rw [Sn.inO_iff s]
    exact ⟨fun h x hx=>hx.elim (fun e=>by rw [e]; exact h.1) (h.2 x),fun h=>⟨h y (.inl rfl),fun x hx=>h x (.inr hx)⟩⟩
theorem Sn.parts_le:∀ s:Sn,s.parts.length≤2
  | .c0 _=>by simp [Sn.parts]
  | .mk _=>by simp [Sn.parts]
  | .nt _=>by simp [Sn.parts]
  | .b2 _ _ _=>by simp [Sn.parts]
  | .q1 _ _ _=>by simp [Sn.parts]
theorem Sn.letters_le:∀ s:Sn,s.letters.length≤1
  | .c0 _=>by simp [Sn.letters]
  | .mk _=>by simp [Sn.letters]
  | .nt _=>by simp [Sn.letters]
  | .b2 _ _ _=>by simp [Sn.letters]
  | .q1 _ _ _=>by simp [Sn.letters]
def cnt (ss:List Sn):Nat:=(ss.map Sn.count).sum
theorem cnt_cons (s:Sn) (ss:List Sn):cnt (s :: ss) = s.count + cnt ss:=rfl
theorem cnt_app (ss ts:List Sn):cnt (ss ++ ts) = cnt ss + cnt ts:=by
  unfold cnt; rw [List.map_append,List.sum_append]
theorem cnt_parts:∀ ss:List Sn,cnt ss = ss.length + cnt (ss.flatMap Sn.parts)
  | []=>rfl
  | s :: ss=>by
    rw [cnt_cons,List.flatMap_cons,cnt_app,cnt_parts ss,Sn.count_parts s,List.length_cons]
    show 1 + cnt s.parts + _ = _
    omega
theorem cnt_len (ss:List Sn):ss.length≤cnt ss:=by rw [cnt_parts]; omega
theorem mem_level {ss:List Sn} {t:Sn}:t∈ss.flatMap Sn.parts↔∃ s∈ss,t∈s.parts:=List.mem_flatMap
inductive spIsMark (vs:List V) (H:Hp) (Q:VK) (E9:XK):Prop
  | mk (x:Str) (_:vs = [.str x]) (_:Q (.bl (decide (x∈letts))) H):spIsMark vs H Q E9
theorem mono_isMark:SpMono spIsMark:=fun vs H Q Q' E h ⟨x,e,q⟩=>⟨x,e,h _ _ q⟩
def ordB (os:List Str):Bool:=decide (0 < os.length) && (os.all (fun x=>decide (x∈letts)) && decide os.Nodup)
theorem ordB_of {os:List Str} (h:IsOrd os):ordB os = true:=by
  unfold ordB
  rw [decide_eq_true h.pos,decide_eq_true h.nd,List.all_eq_true.mpr fun x hx=>decide_eq_true (h.mem x hx)]
  rfl
inductive spIsOrder (K:PySem.W.Frag) (vs:List V) (H:Hp) (Q:VK) (E9:XK):Prop
  | mk (l:Addr) (os:List Str) (_:vs = [.ref l]) (_:SqL K H l (os.map V.str)) (_:os.length≤100) (_:∀ H',Same H H'→Q (.bl (ordB os)) H'):spIsOrder K vs H Q E9
def tb_SHAPES:List (Str × Int × Int):=[("yes", 0,0),("no", 0,0),("mark", 1,0),("not", 0,1),("and", 0,2),("or", 0,2),("either", 0,2),("if", 0,2),("some", 1,1),("each", 1,1)]
theorem shape_in (s:Sn):(s.word,((s.letters.length:Nat):Int),((s.parts.length:Nat):Int))∈tb_SHAPES:=by
  cases s with
  | c0 y =>
    cases y
    · show ((Str.ofString "no", (0:Int),(0:Int)):Str × Int × Int)∈tb_SHAPES
      decide +kernel
    · show ((Str.ofString "yes", (0:Int),(0:Int)):Str × Int × Int)∈tb_SHAPES
      decide +kernel
  | mk x =>
    show ((Str.ofString "mark", (1:Int),(0:Int)):Str × Int × Int)∈tb_SHAPES
    decide +kernel
  | nt s =>
    show ((Str.ofString "not", (0:Int),(1:Int)):Str × Int × Int)∈tb_SHAPES
    decide +kernel
  | b2 o s t =>
    show ((w2 o,(0:Int),(2:Int)):Str × Int × Int)∈tb_SHAPES
    revert o
    decide +kernel
  | q1 o x s =>
    cases o
    · show ((Str.ofString "each", (1:Int),(1:Int)):Str × Int × Int)∈tb_SHAPES
      decide +kernel
    · show ((Str.ofString "some", (1:Int),(1:Int)):Str × Int × Int)∈tb_SHAPES
      decide +kernel
inductive spLettersOf (vs:List V) (H:Hp) (Q:VK) (E9:XK):Prop
  | mk (p:Addr) (x:Str) (m n:Nat) (rest:List V) (_:vs = [.ref p]) (_:H p = some (.tup (.str x :: rest))) (_:(x,(m:Int),(n:Int))∈tb_SHAPES) (_:rest.length = m + n) (_:∀ q,H q = none→Q (.ref q) (upd H q (.tup (rest.take m)))):spLettersOf vs H Q E9
inductive spPartsOf (vs:List V) (H:Hp) (Q:VK) (E9:XK):Prop
  | mk (p:Addr) (x:Str) (m n:Nat) (rest:List V) (_:vs = [.ref p]) (_:H p = some (.tup (.str x :: rest))) (_:(x,(m:Int),(n:Int))∈tb_SHAPES) (_:rest.length = m + n) (_:∀ q,H q = none→Q (.ref q) (upd H q (.tup (rest.drop m)))):spPartsOf vs H Q E9
theorem sen_cut {H:Hp} {s:Sn} {p:Addr} (h:IsS H s p):∃ qs:List Addr,H p = some (.tup (.str s.word :: (s.letters.map V.str ++ qs.map V.ref)))∧Paired (IsS H) s.parts qs ∧
    (s.letters.map V.str ++ qs.map V.ref).length = s.letters.length + s.parts.length∧(s.letters.map V.str ++ qs.map V.ref).take s.letters.length = s.letters.map V.str∧(s.letters.map V.str ++ qs.map V.ref).drop s.letters.length = qs.map V.ref:=by
  obtain ⟨qs,h1,h2⟩:=h.shape
  have l:=pd_len h2
  refine ⟨qs,h1,h2,by simp [l],?_,?_⟩
  · rw [List.take_append_of_le_length (by simp),List.take_of_length_le (by simp)]
  · rw [List.drop_append_of_le_length (by simp),List.drop_of_length_le (by simp)]
    rfl
inductive spPartsOfAll (K:PySem.W.Frag) (vs:List V) (H:Hp) (Q:VK) (E9:XK):Prop
  | mk (l:Addr) (ss:List Sn) (ps:List Addr) (_:vs = [.ref l]) (_:SqL K H l (ps.map V.ref)) (_:Paired (IsS H) ss ps) (_:ss.length≤400) (_:∀ (l':Addr) (H':Hp) (ps':List Addr),Same H H'→H l' = none→H' l' = some (.lst (ps'.map V.ref))→Paired (IsS H') (ss.flatMap Sn.parts) ps'→Q (.ref l') H'):spPartsOfAll K vs H Q E9
inductive spShaped (vs:List V) (H:Hp) (Q:VK) (E9:XK):Prop
  | mk (p:Addr) (s:Sn) (_:vs = [.ref p]) (_:IsS H s p) (_:(∀ x∈s.letters,x∈letts)) (_:∀ H',Same H H'→Q (.bl true) H'):spShaped vs H Q E9
theorem mono_shaped:SpMono spShaped:=fun vs H Q Q' E h ⟨p,s,e,h1,h2,q⟩=>⟨p,s,e,h1,h2,fun H' g=>h _ _ (q H' g)⟩
abbrev VC (sn:Sn) (zs:List Addr):List V:=V.str sn.word :: (sn.letters.map V.str ++ zs.map V.ref)
inductive spIsSen (vs:List V) (H:Hp) (Q:VK) (E9:XK):Prop
  | mk (p:Addr) (s:Sn) (_:vs = [.ref p]) (_:IsS H s p) (_:s.inO letts) (_:s.count≤200) (_:s.depth≤24) (_:∀ H',Same H H'→Q (.bl true) H'):spIsSen vs H Q E9
inductive spMustOrder (K:PySem.W.Frag) (vs:List V) (H:Hp) (Q:VK) (E9:XK):Prop
  | mk (l:Addr) (os:List Str) (_:vs = [.ref l]) (_:SqL K H l (os.map V.str)) (_:IsOrd os) (_:∀ H',Same H H'→Q .non H'):spMustOrder K vs H Q E9
inductive spMustSen (vs:List V) (H:Hp) (Q:VK) (E9:XK):Prop
  | mk (p:Addr) (s:Sn) (_:vs = [.ref p]) (_:IsS H s p) (_:s.inO letts) (_:s.count≤200) (_:s.depth≤24) (_:∀ H',Same H H'→Q .non H'):spMustSen vs H Q E9
inductive spTuplesIn (vs:List V) (H:Hp) (Q:VK) (E9:XK):Prop
  | mk (p:Addr) (s:Sn) (_:vs = [.ref p]) (_:IsS H s p) (_:s.count≤400) (_:∀ (l:Addr) (H':Hp) (ts:List Sn) (ps:List Addr),Same H H'→H l = none→H' l = some (.lst (ps.map V.ref))→Paired (IsS H') ts ps→ts.length = s.count→(∀ x,(∃ t∈ts,x∈t.letters)↔x∈s.all)→Q (.ref l) H'):spTuplesIn vs H Q E9
inductive spLettersIn (vs:List V) (H:Hp) (Q:VK) (E9:XK):Prop
  | mk (p:Addr) (s:Sn) (_:vs = [.ref p]) (_:IsS H s p) (_:s.count≤400) (_:∀ (l:Addr) (H':Hp) (xs:List Str),Same H H'→H l = none→H' l = some (.lst (xs.map V.str))→(∀ x,x∈xs↔x∈s.all)→xs.length≤400→Q (.ref l) H'):spLettersIn vs H Q E9
inductive spMustMark (K:PySem.W.Frag) (vs:List V) (H:Hp) (Q:VK) (E9:XK):Prop
  | mk (l:Addr) (x:Str) (os:List Str) (_:vs = [.ref l,.str x]) (_:SqL K H l (os.map V.str)) (_:x∈os) (_:Q .non H):spMustMark K vs H Q E9
inductive spMustMarks (K:PySem.W.Frag) (vs:List V) (H:Hp) (Q:VK) (E9:XK):Prop
  | mk (l p:Addr) (os:List Str) (s:Sn) (_:vs = [.ref l,.ref p]) (_:SqL K H l (os.map V.str)) (_:IsS H s p) (_:s.count≤400) (_:s.inO os) (_:∀ H',Same H H'→Q .non H'):spMustMarks K vs H Q E9
end
end Sen
namespace L2
open PySem
section
variable {K:PySem.W.Frag} {a:Addr} {xs:List V} {σ:St} {js:List Nat} {te:TE} {H:Hp} {Qf:Addr→Hp→List V→Prop}
theorem lc_idxT (R:Nat→V→Prop) (hq:SqT K H a xs) (hz:xs.length≤sizeLine)
    (hs:∀ (i:Nat) x H',xs[i]? = some x→Same H H'→te (lcS σ js (some x)) H' fun v H3=>R i v∧Same H H3)
    (me:∀ σ H Q Q',(∀ v H1,Q v H1→Q' v H1)→te σ H Q→te σ H Q')
    (hd:∀ ys H' p,ys.length = xs.length→(∀ (j:Nat) v,ys[j]? = some v→R j v)→Same H H'→H' p = none→Qf p H' ys) :
    ∃ W:Nat→Nat→List V→Hp→Prop,(∃ m,W 0 m [] H)∧∀ i m ys H,W i m ys H →
      ((Itt K a).stop i H∧∀ p,H p = none→Qf p H ys) ∨
      ((Itt K a).go i H∧ys.length < sizeLine∧∀ x H',(Itt K a).yld i H x H'→tYes (lcS σ js (some x)) H' fun b H2 =>
        if b = true then te (lcS σ js (some x)) H2 fun v H3=>∃ m',m' < m∧W (i + 1) m' (ys ++ [v]) H3 else ∃ m',m' < m∧W (i + 1) m' ys H2):=by
  refine lc_tup (fun i ys H'=>Same H H'∧ys.length = i∧∀ (j:Nat) v,ys[j]? = some v→R j v) ⟨Same.refl _,rfl,fun j v h=>by simp at h⟩ hz ?_ ?_ (fun _ _ _ _ h q=>h _ _ q) me ?_
  · rintro i ys H' hi ⟨g,e,r⟩
    exact ⟨g.seqT hq,by omega⟩
  · rintro i x ys H' hx ⟨g,e,r⟩
    show te (lcS σ js (some x)) H' fun v H3=>Same H H3∧(ys ++ [v]).length = i + 1∧∀ (j:Nat) u,(ys ++ [v])[j]? = some u→R j u
    refine me _ _ _ _ (fun v H3 h3=>⟨h3.2,by rw [List.length_append,e]; rfl,fun j u hj=>?_⟩) (hs i x H' hx g)
    by_cases hlt:j < ys.length
    · rw [List.getElem?_append_left hlt] at hj
      exact r j u hj
    · rw [List.getElem?_append_right (by omega)] at hj
      have hj0:j - ys.length = 0:=by
        have:=(List.getElem?_eq_some_iff.mp hj).1
        rw [List.length_singleton] at this
        omega
      rw [hj0] at hj
      have ev:v = u:=Option.some.inj hj
      have ej:j = i:=by omega
      rw [← ev,ej]
      exact h3.1
  · rintro ys H' p ⟨g,e,r⟩ hp
    exact hd ys H' p e r g hp
theorem mono2 {sp:Sp} (m:SpMono sp):∀ σ H Q Q',(∀ v H1,Q v H1→Q' v H1)→tCall sp [] E0 (tCons (tVar 0) (tCons (tVar 1) tNil)) σ H Q→tCall sp [] E0 (tCons (tVar 0) (tCons (tVar 1) tNil)) σ H Q' :=
  fun σ H Q Q' h ⟨v,e,u,e',q⟩=>⟨v,e,u,e',m _ _ _ _ _ h q⟩
theorem ne_str {x y:Str} (h:x≠y):¬ decide (V.str x = V.str y) = true:=fun z=>h (by have:=of_decide_eq_true z; injection this)
theorem len1 {α:Type} {ys:List α} (h:ys.length = 1):∃ v,ys = [v]:=by
  match ys,h with
  | [v],_=>exact ⟨v,rfl⟩
theorem len2 {α:Type} {ys:List α} (h:ys.length = 2):∃ v u,ys = [v,u]:=by
  match ys,h with
  | [v,u],_=>exact ⟨v,u,rfl⟩
end
end L2
namespace Sen
open PySem L2
section
variable {K:PySem.W.Frag}
def ix (os:List Str) (x:Str):Nat:=os.findIdx (· == x)
theorem ix_spec:∀ {os:List Str} {x:Str},x∈os→(os.map V.str).findIdx? (fun z=>eqV z (.str x)) = some (ix os x)∧ix os x < os.length∧os[ix os x]? = some x
  | t :: r,x,h=>by
    unfold ix
    rw [List.map_cons,List.findIdx?_cons,List.findIdx_cons]
    show (if (t == x) = true then some 0 else _) = _∧_
    by_cases e:t = x
    · subst e
      simp
    · have hb:(t == x) = false:=by simpa using e
      have hr:x∈r:=by
        rcases List.mem_cons.mp h with z | z
        · exact absurd z.symm e
        · exact z
      obtain ⟨h1,h2,h3⟩:=ix_spec hr
      rw [hb,h1]
      unfold ix at h2 h3 ⊢
      refine ⟨rfl,?_,?_⟩
      · show (r.findIdx (· == x)) + 1 < (t :: r).length
        rw [List.length_cons]; omega
      · show (t :: r)[(r.findIdx (· == x)) + 1]? = some x
        rw [List.getElem?_cons_succ]; exact h3
theorem ix_inj {os:List Str} {x y:Str} (hx:x∈os) (hy:y∈os):ix os y = ix os x↔y = x:=by
  constructor
  · intro e
    have h1:=(ix_spec hx).2.2
    have h2:=(ix_spec hy).2.2
    rw [e,h1] at h2
    exact (Option.some.inj h2).symm
  · intro e; rw [e]
def envB (os:List Str) (b:Nat):Str→Bool:=fun x=>b.testBit (ix os x)
theorem val_put {os:List Str} {s:Sn} {x:Str} (hs:s.inO os) (hx:x∈os) (b:Nat) (v:Bool):s.val (fun y=>if y = x then v else envB os b y) = s.val (envB os (putBit b (ix os x) v)):=by
  refine Sn.val_congr s hs fun y hy=>?_
  show _ = (putBit b (ix os x) v).testBit (ix os y)
  rw [putBit_bit]
  by_cases e:y = x
  · rw [if_pos e,if_pos ((ix_inj hx hy).mpr e)]
  · rw [if_neg e,if_neg (fun z=>e ((ix_inj hx hy).mp z))]
    rfl
theorem putBit_self (b p:Nat):putBit b p (b.testBit p) = b:=by unfold putBit; rw [if_pos rfl]
theorem val_some {os:List Str} {s:Sn} {x:Str} (hs:s.inO os) (hx:x∈os) (b:Nat):(Sn.q1 true x s).val (envB os b) = (s.val (envB os b) || s.val (envB os (putBit b (ix os x) (!b.testBit (ix os x))))):=by
  show (s.val (fun y=>if y = x then true else envB os b y) || s.val (fun y=>if y = x then false else envB os b y)) = _
  rw [val_put hs hx,val_put hs hx]
  have z:=putBit_self b (ix os x)
  cases hb:b.testBit (ix os x)
  · rw [hb] at z; rw [z]; exact Bool.or_comm _ _
  · rw [hb] at z; rw [z]; rfl
theorem val_each {os:List Str} {s:Sn} {x:Str} (hs:s.inO os) (hx:x∈os) (b:Nat):(Sn.q1 false x s).val (envB os b) = (s.val (envB os b) && s.val (envB os (putBit b (ix os x) (!b.testBit (ix os x))))):=by
  show (s.val (fun y=>if y = x then true else envB os b y) && s.val (fun y=>if y = x then false else envB os b y)) = _
  rw [val_put hs hx,val_put hs hx]
  have z:=putBit_self b (ix os x)
  cases hb:b.testBit (ix os x)
  · rw [hb] at z; rw [z]; exact Bool.and_comm _ _
  · rw [hb] at z; rw [z]; rfl
def TabOf (os:List Str) (s:Sn) (N:Nat):Prop:=IsTab os.length N (fun b=>s.val (envB os b))
theorem w2_no:∀ o,w2 o≠Str.ofString "no" := by decide +kernel
theorem w2_yes:∀ o,w2 o≠Str.ofString "yes" := by decide +kernel
theorem w2_mark:∀ o,w2 o≠Str.ofString "mark" := by decide +kernel
theorem w2_not:∀ o,w2 o≠Str.ofString "not" := by decide +kernel
theorem w2_some:∀ o,w2 o≠Str.ofString "some" := by decide +kernel
theorem w2_each:∀ o,w2 o≠Str.ofString "each" := by decide +kernel
theorem fin4 (o:Fin 4):o = 0∨o = 1∨o = 2∨o = 3:=by
  match o with
  | 0=>exact .inl rfl
  | 1=>exact .inr (.inl rfl)
  | 2=>exact .inr (.inr (.inl rfl))
  | 3=>exact .inr (.inr (.inr rfl))
inductive spTwo (vs:List V) (H:Hp) (Q:VK) (E9:XK):Prop
  | mk (o:Fin 4) (N M n:Nat) (f g:Nat→Bool) (_:vs = [.str (w2 o),.int N,.int M,.int ((2 ^ 2 ^ n - 1:Nat):Int)]) (_:IsTab n N f) (_:IsTab n M g) (_:∀ R:Nat,IsTab n R (fun b=>Sn.op2 o (f b) (g b))→Q (.int R) H):spTwo vs H Q E9
inductive spTable (K:PySem.W.Frag) (d:Nat) (vs:List V) (H:Hp) (Q:VK) (E9:XK):Prop
  | mk (p l:Addr) (s:Sn) (os:List Str) (_:vs = [.ref p,.ref l]) (_:IsS H s p) (_:SqL K H l (os.map V.str)) (_:s.inO os) (_:os.length≤8) (_:s.depth≤d) (_:∀ (N:Nat) (H':Hp),Same H H'→TabOf os s N→Q (.int N) H'):spTable K d vs H Q E9
theorem mono_table (d:Nat):SpMono (spTable K d):=fun vs H Q Q' E h ⟨p,l,s,os,e,h1,h2,h3,h4,h5,q⟩=>⟨p,l,s,os,e,h1,h2,h3,h4,h5,fun N H' g z=>h _ _ (q N H' g z)⟩
end
end Sen
namespace L2
open PySem PySem.Spec PyProof.Rows
theorem ln_0 {α:Type} {us:List α} (h:us.length = 0):us = []:=List.length_eq_zero_iff.mp h
theorem ln_s {α:Type} {us:List α} {n:Nat} (h:us.length = n + 1):∃ a vs,us = a :: vs∧vs.length = n:=by
  cases us with
  | nil=>cases h
  | cons a vs=>exact ⟨a,vs,rfl,by simpa using h⟩
def fscB (N P:List Str) (sc:Scope):Bool:=(match sc.kind with | .function=>true | _=>false) && !sc.isCoroutine && !sc.isGenerator && decide N.Nodup && decide (N.take P.length = P) && P.all (fun x=>decide (sc.names.lookup x = some .local∨sc.names.lookup x = some .cell)) && sc.names.all (fun y=>decide (y.2≠.free))
theorem fsc {N P:List Str} {sc:Scope} (h:fscB N P sc = true):FnScope N P sc:=by
  unfold fscB at h
  simp only [Bool.and_eq_true,Bool.not_eq_true',decide_eq_true_eq,List.all_eq_true] at h
  obtain ⟨⟨⟨⟨⟨⟨h1,h2⟩,h3⟩,h4⟩,h5⟩,h6⟩,h7⟩:=h
  refine ⟨?_,h2,h3,h4,h5,h6,h7⟩
  revert h1
  cases sc.kind <;> simp
structure Df (K:PySem.W.Frag) (mg:Str→Option Value) (x:Str) (st:Stmt) (f:Addr) (d:FuncData) (ps:List Str):Prop where
  F:Fun K x x st f d
  b:Binds K d ps []
  m:mg x = some (.ref f)
structure Dm (K:PySem.W.Frag) (C:Addr) (x q:Str) (st:Stmt) (f:Addr) (d:FuncData) (ps:List Str):Prop where
  F:Fun K x q st f d
  b:Binds K d ps []
  e:Meth K C x f
section
variable {K:PySem.W.Frag} {h:Heap} {mg:Str→Option Value} {x q:Str} {st:Stmt} {f C:Addr} {oc:Value} {od an:Option Addr} {osl:Array (Option Value)} {kV doc pm cdv ct:Value} {ps:List Str}
theorem dfm (X:K.In h) (G:h.Ns mainGlobals mg) (n:PySem.W.nsIn K mainGlobals x = some (some (.ref f))) (l:K.lookup f = some ⟨oc,od,.func (PySem.W.fnOf x x (defArgs st) (defBody st) (defScope st) .none kV doc pm an cdv ct),osl⟩)
    (c:PySem.W.codeIn K cdv x = true) (k:PySem.W.keepIn K (.ref f) = true)
    (b:∀ (kV doc pm:Value) (an:Option Addr) (cdv ct:Value) (us:List Value),us.length = ps.length→bindArgs (PySem.W.fnOf x x (defArgs st) (defBody st) (defScope st) .none kV doc pm an cdv ct) ⟨us,[]⟩ = pure (ps.zip us)) :
    Df K mg x st f (PySem.W.fnOf x x (defArgs st) (defBody st) (defScope st) .none kV doc pm an cdv ct) ps:=⟨fun_mk l c k,(fun_mk l c k).binds b,PySem.W.mg_of X G n⟩
theorem dmm (n:PySem.W.findIn K (.ref C) x = some (some (.ref f))) (i:PySem.W.isFn K (.ref f) = true) (l:K.lookup f = some ⟨oc,od,.func (PySem.W.fnOf x q (defArgs st) (defBody st) (defScope st) .none kV doc pm an cdv ct),osl⟩)
    (c:PySem.W.codeIn K cdv q = true) (k:PySem.W.keepIn K (.ref f) = true)
    (b:∀ (kV doc pm:Value) (an:Option Addr) (cdv ct:Value) (us:List Value),us.length = ps.length→bindArgs (PySem.W.fnOf x q (defArgs st) (defBody st) (defScope st) .none kV doc pm an cdv ct) ⟨us,[]⟩ = pure (ps.zip us)) :
    Dm K C x q st f (PySem.W.fnOf x q (defArgs st) (defBody st) (defScope st) .none kV doc pm an cdv ct) ps:=⟨fun_mk l c k,(fun_mk l c k).binds b,⟨n,i,k⟩⟩
theorem sqT_all {p:Addr} {it:Array Value} {n:Nat} {od:Option Addr} {sl:Array (Option Value)} {xs:List V} (l:K.lookup p = some ⟨.type "tuple", od,.seq it n,sl⟩) (v:it.toList.map absV = xs.map some) (h:xs.length≤1000):∀ H,SqT K H p xs:=fun H=>sqT_K l v h
end
section
variable {X:Cx} {CX:CXT} {k:Nat} {f C:Addr} {fd:FuncData} {ps:List Str} {sp:Sp} {st:Stmt} {x q m:Str} {p pos apos:Pos} {e o:Expr} {es:List Expr} {t:TA} {ta:TE} {E:XK}
theorem pe_callD (F:FnOk X.prog X.w X.K X.mg X.base CX0 k f fd ps sp) (hr:Room k X.A) (D:Df X.K X.mg x st f fd ps) (ha:PA X (e :: es) t) (hg:Gl X x:=by rfl) (hdb:(x == ("__debug__" : Str)) = false:=by decide) (he:starEach (e :: es) X.env = (false,eval e X.env) :: starEach es X.env:=by rfl) (hpl:(backTo pos (starEach es X.env)).any (·.1) = false:=by rfl) :
    PE X (.Call (.Name x p) (e :: es) [] pos) (tCall sp [] E0 t):=pe_call F hr hg D.m D.F.2 D.b .nil pass0 ha hdb he hpl
theorem pe_callDX (hx:Passes CX X E) (F:FnOk X.prog X.w X.K X.mg X.base CX k f fd ps sp) (hr:Room k X.A) (D:Df X.K X.mg x st f fd ps) (ha:PA X (e :: es) t) (hg:Gl X x:=by rfl) (hdb:(x == ("__debug__" : Str)) = false:=by decide) (he:starEach (e :: es) X.env = (false,eval e X.env) :: starEach es X.env:=by rfl) (hpl:(backTo pos (starEach es X.env)).any (·.1) = false:=by rfl) :
    PE X (.Call (.Name x p) (e :: es) [] pos) (tCall sp [] E t):=pe_call F hr hg D.m D.F.2 D.b .nil hx ha hdb he hpl
theorem pe_methD {pl:Sem Bool} (he:PE X o ta) (c:Cls X.K C) (D:Dm X.K C m q st f fd ps) (F:FnOk X.prog X.w X.K X.mg X.base CX0 k f fd ps sp) (hr:Room k X.A) (ha:PA X (e :: es) t)
    (hst:starEach (e :: es) X.env = (false,eval e X.env) :: starEach es X.env:=by rfl) (hpl:(backTo pos (starEach es X.env)).any (·.1) = false:=by rfl)
    (ht:eval (.Call (.Attribute o m apos) (e :: es) [] pos) X.env = (do
      let ov ← eval o X.env
      standAt apos.atName
      let (f,first) ← holding [ov] (getMethod ov m pl)
      callWith pos f first (backTo pos (starEach (e :: es) X.env)) (backToKw pos (keywordEach [] X.env))):=by rfl) :
    PE X (.Call (.Attribute o m apos) (e :: es) [] pos) (tMeth C m sp [] E0 ta t):=pe_meth he c D.e F hr D.b .nil pass0 ha hst hpl ht
theorem pe_methDX (hx:Passes CX X E) {pl:Sem Bool} (he:PE X o ta) (c:Cls X.K C) (D:Dm X.K C m q st f fd ps) (F:FnOk X.prog X.w X.K X.mg X.base CX k f fd ps sp) (hr:Room k X.A) (ha:PA X (e :: es) t)
    (hst:starEach (e :: es) X.env = (false,eval e X.env) :: starEach es X.env:=by rfl) (hpl:(backTo pos (starEach es X.env)).any (·.1) = false:=by rfl)
    (ht:eval (.Call (.Attribute o m apos) (e :: es) [] pos) X.env = (do
      let ov ← eval o X.env
      standAt apos.atName
      let (f,first) ← holding [ov] (getMethod ov m pl)
      callWith pos f first (backTo pos (starEach (e :: es) X.env)) (backToKw pos (keywordEach [] X.env))):=by rfl) :
    PE X (.Call (.Attribute o m apos) (e :: es) [] pos) (tMeth C m sp [] E ta t):=pe_meth he c D.e F hr D.b .nil hx ha hst hpl ht
theorem pe_meth0D {pl:Sem Bool} (he:PE X o ta) (c:Cls X.K C) (D:Dm X.K C m q st f fd ps) (F:FnOk X.prog X.w X.K X.mg X.base CX0 k f fd ps sp) (hr:Room k X.A)
    (ht:eval (.Call (.Attribute o m apos) [] [] pos) X.env = (do
      let ov ← eval o X.env
      standAt apos.atName
      let (f,first) ← holding [ov] (getMethod ov m pl)
      callWith pos f first (backTo pos (starEach [] X.env)) (backToKw pos (keywordEach [] X.env))):=by rfl) :
    PE X (.Call (.Attribute o m apos) [] [] pos) (tMeth C m sp [] E0 ta tNil):=pe_meth0 he c D.e F hr D.b .nil pass0 ht
end
inductive Ent (K:PySem.W.Frag) (w:World):List DictEntry→List (Str × Int × Int)→List (Str × Value)→Prop
  | nil:Ent K w [] [] []
  | cons {k:Str} {tk:Tok} {p:Addr} {m n:Int} {od:Option Addr} {it:Array Value} {z:Nat} {sl:Array (Option Value)} {es:List DictEntry} {tb:List (Str × Int × Int)} {kvs:List (Str × Value)} (l:K.lookup p = some ⟨.type "tuple", od,.seq it z,sl⟩) (v:it.toList.map absV = [V.int m,V.int n].map some) (t:Ent K w es tb kvs) :
      Ent K w (⟨hashStr w k,.str k tk,.ref p⟩ :: es) ((k,m,n) :: tb) ((k,.ref p) :: kvs)
structure Shp (K:PySem.W.Frag) (P:Program) (w:World) (a:Addr) (kvs:List (Str × Value)) (tb:List (Str × Int × Int)):Prop where
  d:DicK K P w a kvs
  y:∀ k m n,(k,m,n)∈tb→∃ p,valueAt kvs k = some (.ref p)∧∀ H,SqT K H p [.int m,.int n]
  z:∀ k,(∀ e∈tb,e.1≠k)→valueAt kvs k = none
theorem Ent.keys {K:PySem.W.Frag} {w:World} {es:List DictEntry} {tb:List (Str × Int × Int)} {kvs:List (Str × Value)} (h:Ent K w es tb kvs):kvs.map (·.1) = tb.map (·.1):=by
  induction h with
  | nil=>rfl
  | cons _ _ _ ih=>rw [List.map_cons,List.map_cons,ih]
theorem shp_mk {K:PySem.W.Frag} {P:Program} {w:World} {a:Addr} {es:Array DictEntry} {ep:Nat} {kvs:List (Str × Value)} {tb:List (Str × Int × Int)} (l:K.lookup a = some ⟨.type "dict", none,.dict es ep,#[]⟩) (s:(a == sysModules) = false) (nd:decide (tb.map (·.1)).Nodup = true) (h:Ent K w es.toList tb kvs):Shp K P w a kvs tb:=by
  have nk:(kvs.map (·.1)).Nodup:=by rw [h.keys]; exact of_decide_eq_true nd
  obtain ⟨el,hel⟩:∃ el,es.toList = el:=⟨_,rfl⟩
  rw [hel] at h
  refine ⟨dicK_mk l hel s ?_ nk,?_,?_⟩
  · clear nd nk l s hel
    induction h with
    | nil=>exact dk_nil
    | cons _ _ _ ih=>exact dk_cons ih
  · clear nd l s hel
    induction h with
    | nil=>intro k m n hm; cases hm
    | @cons k0 tk p m0 n0 od it z sl es tb kvs l v t ih =>
      intro k m n hm
      rw [List.map_cons,List.nodup_cons] at nk
      rcases List.mem_cons.mp hm with e | e
      · cases e
        refine ⟨p,?_,fun H=>sqT_K l v (by show 2≤1000; decide)⟩
        simp [valueAt]
      · obtain ⟨q,hq,sq⟩:=ih nk.2 k m n e
        refine ⟨q,?_,sq⟩
        have ne:k0≠k:=fun z=>nk.1 (by rw [z,t.keys]; exact List.mem_map.mpr ⟨_,e,rfl⟩)
        simp [valueAt,ne] at hq ⊢
        exact hq
  · clear nd nk l s hel
    induction h with
    | nil=>intro k _; rfl
    | @cons k0 tk p m0 n0 od it z sl es tb kvs l v t ih =>
      intro k hk
      have ne:=hk (k0,m0,n0) (List.mem_cons_self ..)
      have:=ih k fun e he=>hk e (List.mem_cons_of_mem _ he)
      simp [valueAt] at this ⊢
      exact ⟨ne,this⟩
theorem ps_setA {X:Cx} {pos:Pos} (i:Nat) {x:Str} {e:Expr} {te:TE} {pos':Pos} (hN:X.N.Nodup) (he:PE X e te) (hi:X.N[i]? = some x:=by rfl) (hx:Loc X.env.scope x:=by exact Or.inl rfl) (hs:swapsWith e (some (.Name x pos')) pos.line X.env = pure false:=by rfl) (hf:X.fn x = true∨X.env.scope.names.lookup x = some .local:=by first | exact .inl rfl | exact .inr rfl | assumption) :
    PS X (.Assign [.Name x pos'] e pos) (tAsg te (gName i)):=ps_set hN hi hx he hs hf
def lcB (osc sc:Scope) (x:Str) (fv:List Str):Bool:=(match sc.kind with | .function=>true | _=>false) && sc.names.all (fun y=>decide (y.2≠.cell)) && sc.names.all (fun y=>decide (y.2 = .local→sc.names.lookup y.1 = some .local)) && decide (sc.names.lookup x = some .local) && sc.names.all (fun y=>decide (y.2 = .free→osc.names.lookup y.1 = some .cell∨osc.names.lookup y.1 = some .free)) && fv.all (fun y=>decide (sc.names.lookup y = some .free∧(osc.names.lookup y = some .cell∨osc.names.lookup y = some .free))) && decide (x :: fv).Nodup
theorem lco {osc sc:Scope} {x:Str} {fv:List Str} (h:lcB osc sc x fv = true):LcOk osc sc x fv:=by
  unfold lcB at h
  simp only [Bool.and_eq_true,decide_eq_true_eq,List.all_eq_true] at h
  obtain ⟨⟨⟨⟨⟨⟨h1,h2⟩,h3⟩,h4⟩,h5⟩,h6⟩,h7⟩:=h
  refine ⟨?_,h2,h3,h4,h5,h6,h7⟩
  revert h1
  cases sc.kind <;> simp
end L2
namespace L2
open PySem PySem.Spec PyProof.Rows
section
variable {κ:Type} [DecidableEq κ]
def valV (kvs:List (κ × V)) (k:κ):Option V:=(kvs.find? fun kv=>decide (kv.1 = k)).map (·.2)
def putK (kvs:List (κ × V)) (k:κ) (v:V):List (κ × V) :=
  if (kvs.any fun kv=>decide (kv.1 = k)) = true then kvs.map (fun kv=>if kv.1 = k then (kv.1,v) else kv) else kvs ++ [(k,v)]
theorem valV_pos {p:κ × V} {r:List (κ × V)} {k:κ} (e:p.1 = k):valV (p :: r) k = some p.2:=by simp [valV,List.find?_cons,e]
theorem valV_neg {p:κ × V} {r:List (κ × V)} {k:κ} (e:¬ p.1 = k):valV (p :: r) k = valV r k:=by simp [valV,List.find?_cons,e]
theorem valV_any (k:κ):∀ kvs:List (κ × V),(kvs.any fun kv=>decide (kv.1 = k)) = (valV kvs k).isSome
  | []=>rfl
  | p :: r=>by
    rw [List.any_cons]
    by_cases e:p.1 = k
    · simp only [valV_pos e,decide_eq_true e,Bool.true_or,Option.isSome_some]
    · rw [valV_neg e,decide_eq_false e,Bool.false_or]; exact valV_any k r
theorem valV_map (k j:κ) (y:V):∀ kvs:List (κ × V),valV (kvs.map fun kv=>if kv.1 = k then (kv.1,y) else kv) j = (valV kvs j).map fun x=>if j = k then y else x
  | []=>rfl
  | p :: r=>by
    have ih:=valV_map k j y r
    rw [List.map_cons]
    by_cases h:p.1 = k
    · rw [if_pos h]
      by_cases e:p.1 = j
      · rw [valV_pos (p:=(p.1,y)) e,valV_pos e,Option.map_some,if_pos (e.symm.trans h)]
      · rw [valV_neg (p:=(p.1,y)) e,valV_neg e,ih]
    · rw [if_neg h]
      by_cases e:p.1 = j
      · rw [valV_pos (p:=p) e,valV_pos e,Option.map_some,if_neg (fun z=>h (e.trans z))]
      · rw [valV_neg (p:=p) e,valV_neg e,ih]
theorem valV_snoc (k j:κ) (y:V):∀ kvs:List (κ × V),valV kvs k = none→valV (kvs ++ [(k,y)]) j = if j = k then some y else valV kvs j
  | [],_=>by
    by_cases e:k = j
    · rw [if_pos e.symm]; exact valV_pos (p:=(k,y)) e
    · rw [if_neg (fun z=>e z.symm)]; exact valV_neg (p:=(k,y)) e
  | p :: r,hn=>by
    rw [List.cons_append]
    have hk:¬ p.1 = k:=fun z=>by rw [valV_pos z] at hn; cases hn
    rw [valV_neg hk] at hn
    have ih:=valV_snoc k j y r hn
    by_cases e:p.1 = j
    · rw [valV_pos e,valV_pos e,if_neg (fun z=>hk (e.trans z))]
    · rw [valV_neg e,valV_neg e,ih]
theorem valV_put (kvs:List (κ × V)) (k j:κ) (y:V):valV (putK kvs k y) j = if j = k then some y else valV kvs j:=by
  unfold putK
  by_cases a:(kvs.any fun kv=>decide (kv.1 = k)) = true
  · rw [if_pos a,valV_map]
    rw [valV_any] at a
    by_cases e:j = k
    · obtain ⟨x,hx⟩:=Option.isSome_iff_exists.mp a
      rw [if_pos e,e,hx,Option.map_some,if_pos rfl]
    · rw [if_neg e]
      cases valV kvs j with
      | none=>rfl
      | some x=>rw [Option.map_some,if_neg e]
  · rw [if_neg a]
    refine valV_snoc k j y kvs ?_
    rw [valV_any] at a
    cases q:valV kvs k with
    | none=>rfl
    | some x=>rw [q] at a; exact (a rfl).elim
theorem length_putK (kvs:List (κ × V)) (k:κ) (v:V):(putK kvs k v).length≤kvs.length + 1:=by
  unfold putK
  split
  · rw [List.length_map]; omega
  · rw [List.length_append,List.length_cons,List.length_nil]; omega
theorem putK_new {kvs:List (κ × V)} {k:κ} (v:V) (h:valV kvs k = none):putK kvs k v = kvs ++ [(k,v)]:=by
  unfold putK
  rw [valV_any,h]
  exact if_neg (by decide)
theorem RelO.isSome_eq {o:Option V} {u:Option Value} (r:RelO o u):o.isSome = u.isSome:=by
  cases o with
  | none=>cases u with
    | none=>rfl
    | some _=>exact (show False from r).elim
  | some _=>cases u with
    | none=>exact (show False from r).elim
    | some _=>rfl
theorem KV.val {kvs:List (κ × V)} {vs:List (κ × Value)} (r:KV kvs vs) (k:κ):RelO (valV kvs k) (valueAt vs k):=by
  unfold KV at r
  induction r with
  | nil=>exact True.intro
  | @cons p q ps qs h t ih =>
    obtain ⟨h1,h2⟩:=h
    by_cases e:p.1 = k
    · have e':q.1 = k:=h1.symm.trans e
      have b:valueAt (q :: qs) k = some q.2:=by simp [valueAt,List.find?_cons,e']
      rw [valV_pos e,b]; exact h2
    · have e':¬ q.1 = k:=fun z=>e (h1.trans z)
      have b:valueAt (q :: qs) k = valueAt qs k:=by simp [valueAt,List.find?_cons,e']
      rw [valV_neg e,b]; exact ih
theorem KV.any {kvs:List (κ × V)} {vs:List (κ × Value)} (r:KV kvs vs) (k:κ):(kvs.any fun kv=>decide (kv.1 = k)) = vs.any fun kv=>decide (kv.1 = k):=by
  unfold KV at r
  induction r with
  | nil=>rfl
  | cons h t ih=>rw [List.any_cons,List.any_cons,ih,h.1]
theorem KV.repl {kvs:List (κ × V)} {vs:List (κ × Value)} (r:KV kvs vs) (k:κ) {y:V} {u:Value} (ry:RelV y u) :
    KV (kvs.map fun kv=>if kv.1 = k then (kv.1,y) else kv) (vs.map fun kv=>if kv.1 = k then (kv.1,u) else kv):=by
  unfold KV at r ⊢
  induction r with
  | nil=>exact .nil
  | @cons p q ps qs h t ih =>
    rw [List.map_cons,List.map_cons]
    refine .cons ?_ ih
    obtain ⟨h1,h2⟩:=h
    by_cases e:p.1 = k
    · rw [if_pos e,if_pos (h1.symm.trans e)]; exact ⟨h1,ry⟩
    · rw [if_neg e,if_neg (fun z=>e (h1.trans z))]; exact ⟨h1,h2⟩
theorem KV.put {kvs:List (κ × V)} {vs:List (κ × Value)} (r:KV kvs vs) (k:κ) {y:V} {u:Value} (ry:RelV y u):KV (putK kvs k y) (stored vs k u):=by
  unfold putK stored
  rw [r.any k]
  by_cases e:(vs.any fun kv=>decide (kv.1 = k)) = true
  · rw [if_pos e,if_pos e]; exact r.repl k ry
  · rw [if_neg e,if_neg e]; exact Paired.snoc r ⟨rfl,ry⟩
theorem KV.length {kvs:List (κ × V)} {vs:List (κ × Value)} (r:KV kvs vs):kvs.length = vs.length:=Paired.length r
end
theorem kV_is {P:Program} {w:World} {k:Key} {u:Value} (r:RelV (kV k) u):(mixKind P w).is k u = true:=by
  cases k with
  | inl i=>obtain ⟨t,e⟩:=(show ∃ t,u = Value.int i t from r); subst e; exact mixKind_int P w i t
  | inr x=>obtain ⟨t,e⟩:=(show ∃ t,u = Value.str x t from r); subst e; exact mixKind_str P w x t
theorem items_are {P:Program} {w:World}:∀ {ks:List Key} {us:List Value},Vals (ks.map kV) us→ItemsAre (mixKind P w) ks us
  | [],_,r=>by rw [List.map_nil] at r; cases r; exact .nil
  | k :: ks,_,r=>by
    rw [List.map_cons] at r
    cases r with
    | cons h t=>exact .cons (kV_is h) (items_are t)
abbrev KT (H:Hp):List (List Key × V)→List (List Key × Addr × Value)→Prop:=Paired fun p q=>p.1 = q.1∧H q.2.1 = some (.tup (p.1.map kV))∧RelV p.2 q.2.2
theorem KT.val {H:Hp} {kvs:List (List Key × V)} {xs:List (List Key × Addr × Value)} (r:KT H kvs xs) (k:List Key):RelO (valV kvs k) ((atKey xs k).map (·.2)):=by
  induction r with
  | nil=>exact True.intro
  | @cons p q ps qs h t ih =>
    obtain ⟨h1,_,h2⟩:=h
    by_cases e:p.1 = k
    · have e':q.1 = k:=h1.symm.trans e
      have b:atKey (q :: qs) k = some q.2:=by simp [atKey,List.find?_cons,e']
      rw [valV_pos e,b]; exact h2
    · have e':¬ q.1 = k:=fun z=>e (h1.trans z)
      have b:atKey (q :: qs) k = atKey qs k:=by simp [atKey,List.find?_cons,e']
      rw [valV_neg e,b]; exact ih
theorem KT.repl {H:Hp} {kvs:List (List Key × V)} {xs:List (List Key × Addr × Value)} (r:KT H kvs xs) (k:List Key) {y:V} {u:Value} (ry:RelV y u) :
    KT H (kvs.map fun kv=>if kv.1 = k then (kv.1,y) else kv) (xs.map (putAt k u)):=by
  induction r with
  | nil=>exact .nil
  | @cons p q ps qs h t ih =>
    rw [List.map_cons,List.map_cons]
    refine .cons ?_ ih
    obtain ⟨h1,h2,h3⟩:=h
    unfold putAt
    by_cases e:p.1 = k
    · rw [if_pos e,if_pos (h1.symm.trans e)]; exact ⟨h1,h2,ry⟩
    · rw [if_neg e,if_neg (fun z=>e (h1.trans z))]; exact ⟨h1,h2,h3⟩
theorem KT.put {H:Hp} {kvs:List (List Key × V)} {xs:List (List Key × Addr × Value)} (r:KT H kvs xs) (k:List Key) {b:Addr} {y:V} {u:Value} (hb:H b = some (.tup (k.map kV))) (ry:RelV y u) :
    KT H (putK kvs k y) (storedH xs k b u):=by
  have e:(kvs.any fun kv=>decide (kv.1 = k)) = (atKey xs k).isSome:=by
    rw [valV_any,(r.val k).isSome_eq,Option.isSome_map]
  unfold putK storedH
  rw [e]
  by_cases q:(atKey xs k).isSome = true
  · rw [if_pos q,if_pos q]; exact r.repl k ry
  · rw [if_neg q,if_neg q]; exact Paired.snoc r ⟨rfl,hb,ry⟩
theorem KT.keeps {H H':Hp} {kvs:List (List Key × V)} {xs:List (List Key × Addr × Value)} (r:KT H kvs xs) (ht:∀ b ys,H b = some (.tup ys)→H' b = some (.tup ys)):KT H' kvs xs :=
  Paired.mapP r fun _ _ z=>⟨z.1,ht _ _ z.2.1,z.2.2⟩
section
variable {P:Program} {w:World} {H:Hp} {h:Heap} {a:Addr}
theorem rd_of {u:HO} (ok:HOk P w H h) (e:Rd H a u):ObjOk P w H h a u:=e.ok ok
theorem dk_rd {kvs:List (Key × V)} (ok:HOk P w H h) (e:Rd H a (.dK kvs)):kvs.length≤sizeLine∧(a == sysModules) = false∧∃ vs,KV kvs vs∧h.DictOf (mixKind P w) a vs :=
  show ObjOk P w H h a (.dK kvs) from rd_of ok e
theorem dk_of {kvs:List (Key × V)} (ok:HOk P w H h) (e:H a = some (.dK kvs)):kvs.length≤sizeLine∧(a == sysModules) = false∧∃ vs,KV kvs vs∧h.DictOf (mixKind P w) a vs:=dk_rd ok (.inl e)
theorem key_of {ks:List Key} (ok:HOk P w H h) (e:H a = some (.tup (ks.map kV))):(tupleKind (mixKind P w)).is h ks a:=by
  obtain ⟨_,its,r,o,h1,h2,n,h3⟩:=(show ObjOk P w H h a (.tup (ks.map kV)) from ok a _ e)
  exact ⟨o,its.toArray,n,h1,h2,h3,by simpa using items_are r⟩
theorem dt_rd {kvs:List (List Key × V)} (ok:HOk P w H h) (e:Rd H a (.dT kvs)):kvs.length≤sizeLine∧(a == sysModules) = false ∧
    ∃ xs,KT H kvs xs∧h.DictOfH (tupleKind (mixKind P w)) a xs:=by
  obtain ⟨z,y,xs,r,o,es,ep,h1,h2,h3,h4,h5⟩:=(show ObjOk P w H h a (.dT kvs) from rd_of ok e)
  refine ⟨z,y,xs,r,o,es,ep,h1,h2,h3,h4,fun x hx=>?_,h5⟩
  have all:∀ {l:List (List Key × V)} {m:List (List Key × Addr × Value)},KT H l m→∀ x∈m,(tupleKind (mixKind P w)).is h x.1 x.2.1:=by
    intro l m q
    induction q with
    | nil=>intro x hx; exact nomatch hx
    | @cons p q ps qs hq t ih =>
      intro x hx
      rcases List.mem_cons.mp hx with e | hx
      · subst e
        exact key_of ok (by rw [← hq.1]; exact hq.2.1)
      · exact ih x hx
  exact all r x hx
theorem dt_of {kvs:List (List Key × V)} (ok:HOk P w H h) (e:H a = some (.dT kvs)):kvs.length≤sizeLine∧(a == sysModules) = false ∧
    ∃ xs,KT H kvs xs∧h.DictOfH (tupleKind (mixKind P w)) a xs:=dt_rd ok (.inl e)
end
def DGet (H:Hp) (a:Addr) (y:V) (r:Option V):Prop :=
  (∃ kvs k,Rd H a (.dK kvs)∧y = kV k∧r = valV kvs k)∨∃ kvs k b,Rd H a (.dT kvs)∧y = .ref b∧H b = some (.tup (k.map kV))∧r = valV kvs k
def DPut (H:Hp) (a:Addr) (y v:V) (H':Hp):Prop :=
  (∃ kvs k,H a = some (.dK kvs)∧y = kV k∧kvs.length < sizeLine∧H' = upd H a (.dK (putK kvs k v))) ∨
  ∃ kvs k b,H a = some (.dT kvs)∧y = .ref b∧H b = some (.tup (k.map kV))∧kvs.length < sizeLine∧H' = upd H a (.dT (putK kvs k v))
theorem DGet.k {H:Hp} {a:Addr} {kvs:List (Key × V)} {k:Key} (e:H a = some (.dK kvs)):DGet H a (kV k) (valV kvs k):=.inl ⟨kvs,k,.inl e,rfl,rfl⟩
theorem DPut.k {H:Hp} {a:Addr} {kvs:List (Key × V)} {k:Key} {v:V} (e:H a = some (.dK kvs)) (hl:kvs.length < sizeLine):DPut H a (kV k) v (upd H a (.dK (putK kvs k v))):=.inl ⟨kvs,k,e,rfl,hl,rfl⟩
section
variable {X:Cx} {pins:List (Addr × Obj)} {σ:St} {H:Hp} {s:Shared} {a:Addr} {y v:V} {u r:Value} {o:Option V} {A:Around} {E:Value→Shared→Prop}
theorem Inv.big (I:Inv X pins σ H s):sysModules < s.heap.objs.size:=by
  have h:mainGlobals < s.heap.objs.size:=(I.mod.glob.keeps I.bk).lt
  exact Nat.lt_trans (by decide) h
theorem d_getItem {Q:Value→Shared→Prop} (hu:A.units + 1 < cLine) (I:Inv X pins σ H s) (g:DGet H a y (some v)) (ry:RelV y u) (h:∀ w' s',Inv X pins σ H s'→RelV v w'→Q w' s') :
    wpAny (model X.prog X.w) A (getItem (.ref a) u) Q E s:=by
  rcases g with ⟨kvs,k,e,ey,l⟩ | ⟨kvs,k,b,e,ey,eb,l⟩
  · subst ey
    obtain ⟨z,hd,vs,rel,dd⟩:=dk_rd I.hok e
    obtain ⟨w',hw,rw'⟩:=RelO.some_of (v:=v) (o:=valueAt vs k) (by rw [l]; exact rel.val k)
    exact wpAny_getItem_of (kV_is ry) dd.mapOf hw (h w' _ (I.tok _) rw')
  · subst ey
    cases (show u = Value.ref b from ry)
    obtain ⟨z,hd,xs,rel,dd⟩:=dt_rd I.hok e
    obtain ⟨w',hw,rw'⟩:=RelO.some_of (v:=v) (o:=(atKey xs k).map (·.2)) (by rw [l]; exact rel.val k)
    obtain ⟨p,hp,hp2⟩:=Option.map_eq_some_iff.mp hw
    refine wpAny_getItem_heap (tupleKind_room_in1 hu) (key_of I.hok eb) dd hp ?_
    rw [hp2]
    exact h w' _ (I.tok _) rw'
theorem d_notIn {Q:Value→Shared→Prop} (hu:A.units + 1 < cLine) (I:Inv X pins σ H s) (g:DGet H a y o) (ry:RelV y u) (h:∀ s',Inv X pins σ H s'→Q (.bool (!o.isSome)) s') :
    wpAny (model X.prog X.w) A (compareOp .NotIn u (.ref a)) Q E s:=by
  rcases g with ⟨kvs,k,e,ey,l⟩ | ⟨kvs,k,b,e,ey,eb,l⟩
  · subst ey
    obtain ⟨z,hd,vs,rel,dd⟩:=dk_rd I.hok e
    refine wpAny_notIn_of (kV_is ry) hd dd.mapOf ?_
    rw [← (rel.val k).isSome_eq,← l]
    exact h _ (I.tok _)
  · subst ey
    cases (show u = Value.ref b from ry)
    obtain ⟨z,hd,xs,rel,dd⟩:=dt_rd I.hok e
    refine wpAny_notIn_heap (tupleKind_room_in1 hu) (key_of I.hok eb) hd dd ?_
    have q:=(rel.val k).isSome_eq
    rw [Option.isSome_map] at q
    rw [← q,← l]
    exact h _ (I.tok _)
theorem d_write {h':Heap} {t':Nat} {ob:HO} (I:Inv X pins σ H s) (mu:Mut (H a)) (hs:Heap.SameBut a s.heap h') (he:∃ q,h'.get? a = some q) (new:ObjOk X.prog X.w (upd H a ob) h' a ob) :
    Inv X pins σ (upd H a ob) { s with heap:=h',toks:=t' } :=
  I.write (x:=a) (e:=a) mu (.inl rfl) (fun b q hb z=>(hs.2 b hb).trans z) he new
theorem dk_new {P:Program} {w:World} {H':Hp} {h':Heap} {kvs:List (Key × V)} {vs:List (Key × Value)} (z:kvs.length≤sizeLine) (hd:(a == sysModules) = false) (rel:KV kvs vs) (dd:h'.DictOf (mixKind P w) a vs) :
    ObjOk P w H' h' a (.dK kvs):=⟨z,hd,vs,rel,dd⟩
theorem d_setItem {H':Hp} {Q:Unit→Shared→Prop} (hu:A.units + 1 < cLine) (I:Inv X pins σ H s) (g:DPut H a y v H') (ry:RelV y u) (rv:RelV v r) (h:∀ s',Inv X pins σ H' s'→Q () s') :
    wpAny (model X.prog X.w) A (setItem (.ref a) u r) Q E s:=by
  rcases g with ⟨kvs,k,e,ey,l,eH⟩ | ⟨kvs,k,b,e,ey,eb,l,eH⟩
  · subst ey eH
    obtain ⟨z,hd,vs,rel,dd⟩:=dk_of I.hok e
    have hz:vs.length≤sizeLine:=by rw [← rel.length]; exact z
    have hl:(putK kvs k v).length≤sizeLine:=by have:=length_putK kvs k v; omega
    refine wpAny_setItem_pairs (hsz:=hz) (kV_is ry) dd fun h' dd' hs=>h _ ?_
    have he:∃ q,h'.get? a = some q:=let ⟨q,_,_,hq,_⟩:=dd'; ⟨q,hq⟩
    exact d_write I (by rw [e]; exact True.intro) hs he (dk_new hl hd (rel.put k rv) dd')
  · subst ey eH
    cases (show u = Value.ref b from ry)
    obtain ⟨z,hd,xs,rel,dd⟩:=dt_of I.hok e
    have hz:xs.length≤sizeLine:=by rw [← Paired.length rel]; exact z
    have hl:(putK kvs k v).length≤sizeLine:=by have:=length_putK kvs k v; omega
    refine wpAny_setItem_heap (hsz:=hz) (tupleKind_room_in1 hu) (key_of I.hok eb) dd fun h' dd' hs=>h _ ?_
    obtain ⟨q,es,ep,hq,h2,h3,h4,_,h5⟩:=dd'
    refine d_write I (by rw [e]; exact True.intro) hs ⟨q,hq⟩ ⟨hl,hd,_,(rel.put k eb rv).keeps fun c ys ec=>?_,q,es,ep,hq,h2,h3,h4,h5⟩
    rw [upd_ne (ne_of ec e (fun z=>nomatch z))]
    exact ec
end
def NoSl (i:Expr):Prop:=∀ ov iv,subscripted i false ov iv = operate [ov,iv] (getItem ov iv)
theorem subD_of {prog:Program} {w:World} {A:Around} {E:Value→Shared→Prop} {s:Shared} {env:Env} {value slice:Expr} {pos:Pos} {T id:String} {Q:Value→Shared→Prop}
    (hl:typeLookup (.type T) "__getitem__" = pure (some (.builtin id))) (hs:NoSl slice)
    (h:wpAny (model prog w) A (eval value env) (fun o s₁=>wpAny (model prog w) A (eval slice env) (fun i s₂=>s₂.TypeIs o T∧wpAny (model prog w) A (getItem o i) Q E s₂) E s₁) E s) :
    wpAny (model prog w) A (eval (.Subscript value slice pos) env) Q E s:=by
  refine Subscript_ (wpAny_mono h (fun o s₁ h₁=>wpAny_mono h₁ (fun i s₂ h₂=>?_) fun _ _ x=>x) fun _ _ x=>x)
  obtain ⟨hT,h₂⟩:=h₂
  unfold subscriptTail
  refine wpAny_bind ?_
  rw [getitemInPython_of_ne hT.not_modules]
  refine wpAny_bind (wpAny_specialOf hT hl ?_)
  have fin:wpAny (model prog w) A (subscripted slice false o i) (fun r s₃=>wpAny (model prog w) A (letTemporaryGo value o r >>= fun _=>pure r) Q E s₃) E s₂:=by
    rw [hs o i]
    exact wpAny_operating (wpAny_mono h₂ (fun r s₃ h₃=>wpAny_bind (wpAny_letTemporaryGo (wpAny_pure h₃))) fun _ _ x=>x)
  first
    | exact wpAny_pure (wpAny_bind fin)
    | exact wpAny_bind (wpAny_pure (wpAny_bind fin))
    | exact wpAny_bind fin
theorem dict_typeIs {X:Cx} {pins:List (Addr × Obj)} {σ:St} {H:Hp} {s:Shared} {a:Addr} {y:V} {o:Option V} (I:Inv X pins σ H s) (g:DGet H a y o):s.TypeIs (.ref a) "dict" := by
  rcases g with ⟨kvs,k,e,_,_⟩ | ⟨kvs,k,b,e,_,_,_⟩
  · obtain ⟨_,_,vs,_,dd⟩:=dk_rd I.hok e
    exact dd.typeIs
  · obtain ⟨_,_,xs,_,dd⟩:=dt_rd I.hok e
    exact dd.typeIs
def tDGet (td ty:TE):TE:=fun σ H Q=>td σ H fun x H1=>ty σ H1 fun y H2=>∃ a v,x = .ref a∧DGet H2 a y (some v)∧Q v H2
def tDNotIn (ty td:TE):TE:=fun σ H Q=>ty σ H fun y H1=>td σ H1 fun x H2=>∃ a o,x = .ref a∧DGet H2 a y o∧Q (.bl (!o.isSome)) H2
def sDPut (td ty tv:TE):TS:=fun D σ H=>tv σ H fun v H1=>td σ H1 fun x H2=>ty σ H2 fun y H3=>∃ a H4,x = .ref a∧DPut H3 a y v H4∧D.nx σ H4
section
variable {X:Cx} {o i e value:Expr} {pos pos' tpos:Pos} {td ty tv:TE}
theorem pe_dget (hu:X.A.units + 1 < cLine) (ho:PE X o td) (hi:PE X i ty) (hs:NoSl i):PE X (.Subscript o i pos) (tDGet td ty):=by
  intro pins s σ H Q I h
  refine subD_of PySem.F.slot_dict_getitem.lookup hs (thn (ho pins s σ H _ I h) fun u s1 ⟨x,H1,I1,rx,q1⟩=>thn (hi pins s1 σ H1 _ I1 q1) fun iv s2 ⟨y,H2,I2,ry,a,v,ex,g,q2⟩=>?_)
  subst ex
  obtain rfl:u = Value.ref a:=rx
  exact ⟨dict_typeIs I2 g,d_getItem hu I2 g ry fun w' s3 I3 rw'=>⟨v,H2,I3,rw',q2⟩⟩
theorem pc_dnotin (hu:X.A.units + 1 < cLine) (hi:PE X i ty) (ho:PE X o td):PC X .NotIn i o (tDNotIn ty td):=by
  intro pins s σ H Q I h
  refine thn (hi pins s σ H _ I h) fun iv s1 ⟨y,H1,I1,ry,q1⟩=>thn (ho pins s1 σ H1 _ I1 q1) fun u s2 ⟨x,H2,I2,rx,a,ov,ex,g,q2⟩=>?_
  subst ex
  obtain rfl:u = Value.ref a:=rx
  exact d_notIn hu I2 g ry fun s3 I3=>⟨.bl (!ov.isSome),H2,I3,rfl,q2⟩
theorem ps_dput (hu:X.A.units + 1 < cLine) (ho:PE X o td) (hi:PE X i ty) (hv:PE X value tv) (hs:swapsWith value (some (.Subscript o i pos')) pos.line X.env = pure false) :
    PS X (.Assign [.Subscript o i pos'] value pos) (sDPut td ty tv):=by
  intro pins s σ H D I h
  refine wpAny_Assign_Subscript (thn (hv pins s σ H _ I h) fun r s1 ⟨v,H1,I1,rv,q1⟩=>thn (ho pins s1 σ H1 _ I1 q1) fun u s2 ⟨x,H2,I2,rx,q2⟩=>thn (hi pins s2 σ H2 _ I2 q2) fun iv s3 ⟨y,H3,I3,ry,a,H4,ex,g,q3⟩=>?_) hs
  subst ex
  obtain rfl:u = Value.ref a:=rx
  exact d_setItem hu I3 g ry rv fun s4 I4=>⟨σ,H4,I4,q3⟩
end
theorem dk_empty {P:Program} {w:World} {H:Hp} (h:Heap) (hb:sysModules < h.objs.size):ObjOk P w H (h.push { cls:=.type "dict", data:=.dict #[] }) h.objs.size (.dK []) :=
  ⟨Nat.zero_le _,beq_eq_false_iff_ne.mpr (Ne.symm (Nat.ne_of_lt hb)),[],.nil,Heap.DictOf.new h⟩
def tDNewK:TE:=fun _ H Q=>∀ p,H p = none→Q (.ref p) (upd H p (.dK []))
section
variable {X:Cx} {pos:Pos}
theorem pe_dnewK:PE X (.Dict [] [] pos) tDNewK:=fun pins s σ H Q I h =>
  wpAny_Dict_empty ⟨.ref s.heap.objs.size,_,I.laid (a:=s.heap.objs.size) (o:=.dK []) (t':=s.toks) (fun _ _ q=>Heap.get?_push_of_some _ q) (Nat.le_refl _) (dk_empty s.heap I.big),rfl,h _ (I.hok.fresh (Nat.le_refl _))⟩
end
def tPairs:List (TE × TE)→St→Hp→(List (V × V)→Hp→Prop)→Prop
  | [],_,H,Q=>Q [] H
  | (tk,tv) :: r,σ,H,Q=>tk σ H fun x H1=>tv σ H1 fun y H2=>tPairs r σ H2 fun ps H3=>Q ((x,y) :: ps) H3
abbrev VV:List (V × V)→List (Value × Value)→Prop:=Paired fun p q=>RelV p.1 q.1∧RelV p.2 q.2
def PPs (X:Cx) (pos:Pos) (keys:List (Option Expr)) (values:List Expr) (trs:List (TE × TE)):Prop :=
  ∀ (pins:List (Addr × Obj)) (s:Shared) (σ:St) (H:Hp) (Q:List (V × V)→Hp→Prop),Inv X pins σ H s→tPairs trs σ H Q →
    wpAny (model X.prog X.w) X.A (evalPairs (pairTrees keys values X.env pos)) (fun vs s'=>∃ ps H',Inv X pins σ H' s'∧VV ps vs∧Q ps H') X.xe s
theorem pps_nil {X:Cx} {pos:Pos}:PPs X pos [] [] []:=fun pins s σ H Q I h=>pairTrees_nil_walk ⟨[],H,I,.nil,h⟩
theorem pps_cons {X:Cx} {pos:Pos} {k v:Expr} {ks:List (Option Expr)} {vs:List Expr} {tk tv:TE} {trs:List (TE × TE)} (hk:PE X k tk) (hv:PE X v tv) (hr:PPs X pos ks vs trs) :
    PPs X pos (some k :: ks) (v :: vs) ((tk,tv) :: trs):=fun pins s σ H Q I h =>
  pairTrees_cons_walk (thn (hk pins s σ H _ I h) fun u s1 ⟨x,H1,I1,rx,q1⟩=>thn (hv pins s1 σ H1 _ I1 q1) fun w2 s2 ⟨y,H2,I2,ry,q2⟩ =>
    thn (hr pins s2 σ H2 _ I2 q2) fun ws s3 ⟨ps,H3,I3,rel,q3⟩=>⟨(x,y) :: ps,H3,I3,.cons ⟨rx,ry⟩ rel,q3⟩)
def mergeK (kvs more:List (Key × V)):List (Key × V):=more.foldl (fun acc kv=>putK acc kv.1 kv.2) kvs
theorem KV.merge:∀ {more:List (Key × V)} {rs:List (Key × Value)} {kvs:List (Key × V)} {vs:List (Key × Value)},KV more rs→KV kvs vs→KV (mergeK kvs more) (merged vs rs):=by
  intro more rs kvs vs r
  unfold KV at r
  induction r generalizing kvs vs with
  | nil=>intro q; exact q
  | @cons p q ps qs h t ih =>
    intro r0
    have e:KV (putK kvs p.1 p.2) (stored vs q.1 q.2):=by
      have:=r0.put p.1 h.2
      rw [← h.1]; exact this
    exact ih e
theorem length_mergeK:∀ (more kvs:List (Key × V)),(mergeK kvs more).length≤kvs.length + more.length
  | [],kvs=>by show kvs.length≤kvs.length + 0; omega
  | p :: r,kvs=>by
    have h1:=length_mergeK r (putK kvs p.1 p.2)
    have h2:=length_putK kvs p.1 p.2
    show (mergeK (putK kvs p.1 p.2) r).length≤_
    rw [List.length_cons]; omega
theorem carries_of {P:Program} {w:World}:∀ {kvs:List (Key × V)} {ws:List (Value × Value)},VV (kvs.map fun kv=>(kV kv.1,kv.2)) ws→∃ rs,Carries (mixKind P w) ws rs∧KV kvs rs
  | [],_,r=>by rw [List.map_nil] at r; cases r; exact ⟨[],True.intro,.nil⟩
  | p :: kvs,_,r=>by
    rw [List.map_cons] at r
    cases r with
    | @cons a b as bs h t =>
      obtain ⟨rs,c,q⟩:=carries_of (P:=P) (w:=w) t
      obtain ⟨b1,b2⟩:=b
      exact ⟨(p.1,b2) :: rs,⟨kV_is h.1,rfl,c⟩,.cons ⟨rfl,h.2⟩ q⟩
def tDisp (trs:List (TE × TE)):TE:=fun σ H Q=>∀ p,H p = none→tPairs trs σ (upd H p (.dK [])) fun ps H2=>H2 p = some (.dK [])∧∃ kvs:List (Key × V),ps = kvs.map (fun kv=>(kV kv.1,kv.2))∧kvs.length≤15∧Q (.ref p) (upd H2 p (.dK (mergeK [] kvs)))
theorem pe_disp {X:Cx} {pos:Pos} {keys:List (Option Expr)} {values:List Expr} {trs:List (TE × TE)} (h:PPs X pos keys values trs) (hall:keys.all (·.isSome) = true) (hl:keys.length = values.length) (h0:keys≠[])
    (h15:keys.length≤15):PE X (.Dict keys values pos) (tDisp trs):=by
  intro pins s σ H Q I q
  have hn:=I.hok.fresh (Nat.le_refl s.heap.objs.size)
  have I1:=I.laid (a:=s.heap.objs.size) (o:=.dK []) (h':=s.heap.push { cls:=.type "dict", data:=.dict #[] }) (t':=s.toks) (fun _ _ q=>Heap.get?_push_of_some _ q) (Nat.le_refl _) (dk_empty s.heap I.big)
  refine wpAny_Dict_walk (knd:=mixKind X.prog X.w) hall hl h0 h15 (thn (h pins _ σ _ _ I1 (q _ hn)) fun ws s2 ⟨ps,H2,I2,rel,e,kvs,ep,lk,q2⟩=>?_)
  subst ep
  obtain ⟨rs,c,rk⟩:=carries_of (P:=X.prog) (w:=X.w) rel
  obtain ⟨z,hd,vs0,r0,dd⟩:=dk_of I2.hok e
  cases r0
  refine ⟨rs,c,dd,fun h' dd' hs=>⟨.ref s.heap.objs.size,_,?_,rfl,q2⟩⟩
  have hz:(mergeK [] kvs).length≤sizeLine:=by
    have h1:=length_mergeK kvs []
    rw [List.length_nil] at h1
    rw [sizeLine_eq]; omega
  have he:∃ q,h'.get? s.heap.objs.size = some q:=let ⟨q,_,_,hq,_⟩:=dd'; ⟨q,hq⟩
  exact d_write I2 (by rw [e]; exact True.intro) hs he (dk_new hz hd (rk.merge .nil) dd')
end L2
namespace L2
open PySem PySem.Spec PyProof.Rows
inductive EqD (K:PySem.W.Frag) (H:Hp):Nat→V→V→Bool→Prop
  | flat {n:Nat} {x y:V} (fx:flatV x = true) (fy:flatV y = true):EqD K H n x y (eqV x y)
  | tt {n:Nat} {p q:Addr} {xs ys:List V} {e:Nat→Bool} (hp:SqT K H p xs) (hq:SqT K H q ys) (h:∀ (j:Nat) x y,xs[j]? = some x→ys[j]? = some y→EqD K H n x y (e j)) :
      EqD K H (n + 1) (.ref p) (.ref q) ((List.range (min xs.length ys.length)).all e && xs.length == ys.length)
  | ll {n:Nat} {p q:Addr} {xs ys:List V} {e:Nat→Bool} (hp:SqL K H p xs) (hq:SqL K H q ys) (hl:xs.length = ys.length) (h:∀ (j:Nat) x y,xs[j]? = some x→ys[j]? = some y→EqD K H n x y (e j)) :
      EqD K H (n + 1) (.ref p) (.ref q) ((List.range xs.length).all e)
  | ln {n:Nat} {p q:Addr} {xs ys:List V} (hp:SqL K H p xs) (hq:SqL K H q ys) (hl:xs.length≠ys.length):EqD K H (n + 1) (.ref p) (.ref q) false
  | lt {n:Nat} {p q:Addr} {xs ys:List V} (hp:SqL K H p xs) (hq:SqT K H q ys):EqD K H (n + 1) (.ref p) (.ref q) false
  | tl {n:Nat} {p q:Addr} {xs ys:List V} (hp:SqT K H p xs) (hq:SqL K H q ys):EqD K H (n + 1) (.ref p) (.ref q) false
  | lf {n:Nat} {p:Addr} {xs:List V} {y:V} (hp:SqL K H p xs) (fy:flatV y = true):EqD K H (n + 1) (.ref p) y false
  | fl {n:Nat} {p:Addr} {xs:List V} {y:V} (hp:SqL K H p xs) (fy:flatV y = true):EqD K H (n + 1) y (.ref p) false
  | tf {n:Nat} {p:Addr} {xs:List V} {y:V} (hp:SqT K H p xs) (fy:flatV y = true):EqD K H (n + 1) (.ref p) y false
  | ft {n:Nat} {p:Addr} {xs:List V} {y:V} (hp:SqT K H p xs) (fy:flatV y = true):EqD K H (n + 1) y (.ref p) false
section
variable {X:Cx} {pins:List (Addr × Obj)} {σ:St} {H:Hp} {s:Shared}
theorem eqV_refl {x:V} (f:flatV x = true):eqV x x = true:=by
  cases x <;> first | rfl | (simp [eqV]; done) | exact absurd (show false = true from f) Bool.false_ne_true
theorem list_not_tuple (I:Inv X pins σ H s) {p:Addr} {xs ys:List V} (h:SqL X.K H p xs) (k:SqT X.K H p ys):False:=by
  obtain ⟨_,_,⟨o,n,e,c,_⟩,_⟩:=I.list h
  obtain ⟨_,_,⟨o',e',c',_⟩,_⟩:=I.tuple k
  rw [e] at e'
  cases e'
  rw [c] at c'
  injection c' with z
  exact absurd z (by decide)
theorem EqD.refl (I:Inv X pins σ H s) {n:Nat} {x y:V} {b:Bool} (h:EqD X.K H n x y b):x = y→b = true:=by
  induction h with
  | flat fx fy=>intro e; subst e; exact eqV_refl fx
  | tt hp hq h ih =>
    intro e
    cases e
    have ee:=I.tuple_inj hp hq
    subst ee
    rw [Nat.min_self,beq_self_eq_true,Bool.and_true,List.all_eq_true]
    intro j hj
    have hj':=List.mem_range.mp hj
    exact ih j _ _ (List.getElem?_eq_getElem hj') (List.getElem?_eq_getElem hj') rfl
  | ll hp hq hl h ih =>
    intro e
    cases e
    have ee:=I.list_inj hp hq
    subst ee
    rw [List.all_eq_true]
    intro j hj
    have hj':=List.mem_range.mp hj
    exact ih j _ _ (List.getElem?_eq_getElem hj') (List.getElem?_eq_getElem hj') rfl
  | ln hp hq hl =>
    intro e
    cases e
    exact absurd (congrArg List.length (I.list_inj hp hq)) hl
  | lt hp hq=>intro e; cases e; exact (list_not_tuple I hp hq).elim
  | tl hp hq=>intro e; cases e; exact (list_not_tuple I hq hp).elim
  | lf hp fy=>intro e; subst e; exact absurd (show false = true from fy) Bool.false_ne_true
  | fl hp fy=>intro e; subst e; exact absurd (show false = true from fy) Bool.false_ne_true
  | tf hp fy=>intro e; subst e; exact absurd (show false = true from fy) Bool.false_ne_true
  | ft hp fy=>intro e; subst e; exact absurd (show false = true from fy) Bool.false_ne_true
theorem flat_list {A:Around} {u:Value} {y:V} {p:Addr} {its:Array Value} (hl:s.heap.IsList p its) (fy:flatV y = true) (ry:RelV y u) (hu:A.units < cLine):SeqAt.RcAt A s (.ref p) u false∧SeqAt.EqAt A s (.ref p) u false∧SeqAt.RcAt A s u (.ref p) false∧SeqAt.EqAt A s u (.ref p) false∧SeqAt.RcNeAt A s (.ref p) u true∧SeqAt.RcNeAt A s u (.ref p) true:=by
  cases y with
  | non=>cases ry; exact ⟨.list_none hl hu,.list_none hl hu,.none_list hl hu,.none_list hl hu,.list_none hl hu,.none_list hl hu⟩
  | bl b=>cases ry; exact ⟨.list_bool b hl hu,.list_bool b hl hu,.bool_list b hl hu,.bool_list b hl hu,.list_bool b hl hu,.bool_list b hl hu⟩
  | int i=>obtain ⟨t,rfl⟩:=ry; exact ⟨.list_int i t hl hu,.list_int i t hl hu,.int_list i t hl hu,.int_list i t hl hu,.list_int i t hl hu,.int_list i t hl hu⟩
  | str i=>obtain ⟨t,rfl⟩:=ry; exact ⟨.list_str i t hl hu,.list_str i t hl hu,.str_list i t hl hu,.str_list i t hl hu,.list_str i t hl hu,.str_list i t hl hu⟩
  | _=>exact absurd (show false = true from fy) Bool.false_ne_true
theorem flat_tuple {A:Around} {u:Value} {y:V} {p:Addr} {its:Array Value} (hl:s.heap.IsTuple p its) (fy:flatV y = true) (ry:RelV y u) (hu:A.units < cLine):SeqAt.RcAt A s (.ref p) u false∧SeqAt.EqAt A s (.ref p) u false∧SeqAt.RcAt A s u (.ref p) false∧SeqAt.EqAt A s u (.ref p) false∧SeqAt.RcNeAt A s (.ref p) u true∧SeqAt.RcNeAt A s u (.ref p) true:=by
  cases y with
  | non=>cases ry; exact ⟨.tuple_none hl hu,.tuple_none hl hu,.none_tuple hl hu,.none_tuple hl hu,.tuple_none hl hu,.none_tuple hl hu⟩
  | bl b=>cases ry; exact ⟨.tuple_bool b hl hu,.tuple_bool b hl hu,.bool_tuple b hl hu,.bool_tuple b hl hu,.tuple_bool b hl hu,.bool_tuple b hl hu⟩
  | int i=>obtain ⟨t,rfl⟩:=ry; exact ⟨.tuple_int i t hl hu,.tuple_int i t hl hu,.int_tuple i t hl hu,.int_tuple i t hl hu,.tuple_int i t hl hu,.int_tuple i t hl hu⟩
  | str i=>obtain ⟨t,rfl⟩:=ry; exact ⟨.tuple_str i t hl hu,.tuple_str i t hl hu,.str_tuple i t hl hu,.str_tuple i t hl hu,.tuple_str i t hl hu,.str_tuple i t hl hu⟩
  | _=>exact absurd (show false = true from fy) Bool.false_ne_true
theorem item_at {xs:List V} {us:List Value} (r:Vals xs us) {j:Nat} (h:j < us.toArray.size):∃ x,xs[j]? = some x∧RelV x us.toArray[j]:=by
  have hl:=r.length
  have hj:j < xs.length:=by simp at h; omega
  obtain ⟨u,hu,ru⟩:=r.get (List.getElem?_eq_getElem hj)
  refine ⟨xs[j],List.getElem?_eq_getElem hj,?_⟩
  have e:us.toArray[j] = u:=by
    have:=(List.getElem?_eq_some_iff.mp hu).2
    simpa using this
  rw [e]; exact ru
theorem EqD.at {n:Nat} {x y:V} {b:Bool} (h:EqD X.K H n x y b) (I:Inv X pins σ H s):∀ {A:Around} {u v:Value},RelV x u→RelV y v→A.units + n < cLine→SeqAt.EqAt A s u v b:=by
  induction h with
  | flat fx fy=>intro A u v rx ry _; exact eqAt_V rx ry fx fy
  | @tt n p q xs ys e hp hq h ih =>
    intro A u v rx ry hu
    cases rx
    cases ry
    obtain ⟨us,r1,t1,_⟩:=I.tuple hp
    obtain ⟨ws,r2,t2,_⟩:=I.tuple hq
    have l1:=r1.length
    have l2:=r2.length
    by_cases hne:p = q
    · subst hne
      have z:=(EqD.tt hp hq h).refl I rfl
      rw [z]
      exact SeqAt.EqAt.same _
    · refine SeqAt.EqAt.of_refs hne ?_
      have z:=SeqAt.RcAt.tuples (A:=A) (e:=e) t1 t2 (by omega) fun j h1 h2=>by
        obtain ⟨x,hx,rx⟩:=item_at r1 h1
        obtain ⟨y,hy,ry⟩:=item_at r2 h2
        exact ih j x y hx hy rx ry (by show A.units + 1 + n < cLine; omega)
      rw [List.size_toArray,List.size_toArray,← l1,← l2] at z
      exact z
  | @ll n p q xs ys e hp hq hl h ih =>
    intro A u v rx ry hu
    cases rx
    cases ry
    obtain ⟨us,r1,t1,_⟩:=I.list hp
    obtain ⟨ws,r2,t2,_⟩:=I.list hq
    have l1:=r1.length
    have l2:=r2.length
    by_cases hne:p = q
    · subst hne
      have z:=(EqD.ll hp hq hl h).refl I rfl
      rw [z]
      exact SeqAt.EqAt.same _
    · refine SeqAt.EqAt.of_refs hne ?_
      have z:=SeqAt.RcAt.lists (A:=A) (e:=e) t1.isList t2.isList (by simp; omega) (by omega) fun j h1 h2=>by
        obtain ⟨x,hx,rx⟩:=item_at r1 h1
        obtain ⟨y,hy,ry⟩:=item_at r2 h2
        exact ih j x y hx hy rx ry (by show A.units + 1 + n < cLine; omega)
      rw [List.size_toArray,← l1] at z
      exact z
  | @ln n p q xs ys hp hq hl =>
    intro A u v rx ry hu
    cases rx
    cases ry
    obtain ⟨us,r1,t1,_⟩:=I.list hp
    obtain ⟨ws,r2,t2,_⟩:=I.list hq
    have l1:=r1.length
    have l2:=r2.length
    have hne:p≠q:=fun e=>by subst e; exact hl (congrArg List.length (I.list_inj hp hq))
    exact SeqAt.EqAt.of_refs hne (SeqAt.RcAt.lists_lengths t1.isList t2.isList (by simp; omega) (by omega))
  | lt hp hq =>
    intro A u v rx ry hu
    cases rx
    cases ry
    obtain ⟨us,r1,t1,_⟩:=I.list hp
    obtain ⟨ws,r2,t2,_⟩:=I.tuple hq
    exact SeqAt.EqAt.list_tuple t1.isList t2 (by omega)
  | tl hp hq =>
    intro A u v rx ry hu
    cases rx
    cases ry
    obtain ⟨us,r1,t1,_⟩:=I.tuple hp
    obtain ⟨ws,r2,t2,_⟩:=I.list hq
    exact SeqAt.EqAt.tuple_list t1 t2.isList (by omega)
  | lf hp fy =>
    intro A u v rx ry hu
    cases rx
    obtain ⟨us,r1,t1,_⟩:=I.list hp
    exact (flat_list t1.isList fy ry (by omega)).2.1
  | fl hp fy =>
    intro A u v rx ry hu
    cases ry
    obtain ⟨us,r1,t1,_⟩:=I.list hp
    exact (flat_list t1.isList fy rx (by omega)).2.2.2.1
  | tf hp fy =>
    intro A u v rx ry hu
    cases rx
    obtain ⟨us,r1,t1,_⟩:=I.tuple hp
    exact (flat_tuple t1 fy ry (by omega)).2.1
  | ft hp fy =>
    intro A u v rx ry hu
    cases ry
    obtain ⟨us,r1,t1,_⟩:=I.tuple hp
    exact (flat_tuple t1 fy rx (by omega)).2.2.2.1
theorem EqD.rc {n:Nat} {x y:V} {b:Bool} (h:EqD X.K H n x y b) (I:Inv X pins σ H s) (hn:¬ (flatV x = true∧flatV y = true)) {A:Around} {u v:Value} (rx:RelV x u) (ry:RelV y v) (hu:A.units + n < cLine):SeqAt.RcAt A s u v b∧SeqAt.RcNeAt A s u v (!b):=by
  cases h with
  | flat fx fy=>exact absurd ⟨fx,fy⟩ hn
  | @tt n p q xs ys e hp hq h =>
    cases rx
    cases ry
    obtain ⟨us,r1,t1,_⟩:=I.tuple hp
    obtain ⟨ws,r2,t2,_⟩:=I.tuple hq
    have l1:=r1.length
    have l2:=r2.length
    have he:∀ j (h1:j < us.toArray.size) (h2:j < ws.toArray.size),SeqAt.EqAt A.in1 s us.toArray[j] ws.toArray[j] (e j):=fun j h1 h2=>by
      obtain ⟨x,hx,rx⟩:=item_at r1 h1
      obtain ⟨y,hy,ry⟩:=item_at r2 h2
      exact (h j x y hx hy).at I rx ry (by show A.units + 1 + n < cLine; omega)
    have z:=SeqAt.RcAt.tuples (A:=A) (e:=e) t1 t2 (by omega) he
    have z2:=SeqAt.RcNeAt.tuples (A:=A) (e:=e) t1 t2 (by omega) he
    rw [List.size_toArray,List.size_toArray,← l1,← l2] at z z2
    exact ⟨z,z2⟩
  | @ll n p q xs ys e hp hq hl h =>
    cases rx
    cases ry
    obtain ⟨us,r1,t1,_⟩:=I.list hp
    obtain ⟨ws,r2,t2,_⟩:=I.list hq
    have l1:=r1.length
    have l2:=r2.length
    have he:∀ j (h1:j < us.toArray.size) (h2:j < ws.toArray.size),SeqAt.EqAt A.in1 s us.toArray[j] ws.toArray[j] (e j):=fun j h1 h2=>by
      obtain ⟨x,hx,rx⟩:=item_at r1 h1
      obtain ⟨y,hy,ry⟩:=item_at r2 h2
      exact (h j x y hx hy).at I rx ry (by show A.units + 1 + n < cLine; omega)
    have z:=SeqAt.RcAt.lists (A:=A) (e:=e) t1.isList t2.isList (by simp; omega) (by omega) he
    have z2:=SeqAt.RcNeAt.lists (A:=A) (e:=e) t1.isList t2.isList (by simp; omega) (by omega) he
    rw [List.size_toArray,← l1] at z z2
    exact ⟨z,z2⟩
  | @ln n p q xs ys hp hq hl =>
    cases rx
    cases ry
    obtain ⟨us,r1,t1,_⟩:=I.list hp
    obtain ⟨ws,r2,t2,_⟩:=I.list hq
    have l1:=r1.length
    have l2:=r2.length
    exact ⟨SeqAt.RcAt.lists_lengths t1.isList t2.isList (by simp; omega) (by omega),SeqAt.RcNeAt.lists_lengths t1.isList t2.isList (by simp; omega) (by omega)⟩
  | lt hp hq =>
    cases rx
    cases ry
    obtain ⟨us,r1,t1,_⟩:=I.list hp
    obtain ⟨ws,r2,t2,_⟩:=I.tuple hq
    exact ⟨SeqAt.RcAt.list_tuple t1.isList t2 (by omega),SeqAt.RcNeAt.list_tuple t1.isList t2 (by omega)⟩
  | tl hp hq =>
    cases rx
    cases ry
    obtain ⟨us,r1,t1,_⟩:=I.tuple hp
    obtain ⟨ws,r2,t2,_⟩:=I.list hq
    exact ⟨SeqAt.RcAt.tuple_list t1 t2.isList (by omega),SeqAt.RcNeAt.tuple_list t1 t2.isList (by omega)⟩
  | lf hp fy =>
    cases rx
    obtain ⟨us,r1,t1,_⟩:=I.list hp
    have z:=flat_list (A:=A) t1.isList fy ry (by omega)
    exact ⟨z.1,z.2.2.2.2.1⟩
  | fl hp fy =>
    cases ry
    obtain ⟨us,r1,t1,_⟩:=I.list hp
    have z:=flat_list (A:=A) t1.isList fy rx (by omega)
    exact ⟨z.2.2.1,z.2.2.2.2.2⟩
  | tf hp fy =>
    cases rx
    obtain ⟨us,r1,t1,_⟩:=I.tuple hp
    have z:=flat_tuple (A:=A) t1 fy ry (by omega)
    exact ⟨z.1,z.2.2.2.2.1⟩
  | ft hp fy =>
    cases ry
    obtain ⟨us,r1,t1,_⟩:=I.tuple hp
    have z:=flat_tuple (A:=A) t1 fy rx (by omega)
    exact ⟨z.2.2.1,z.2.2.2.2.2⟩
end
section
variable {X:Cx}
theorem op_eqD {K:PySem.W.Frag} (hK:X.K = K) (hu:X.A.units + 8 < cLine):OpR X (compareOp .Eq) (fun x y H Q=>∃ b,¬ (flatV x = true∧flatV y = true)∧EqD K H 8 x y b∧Q (.bl b) H):=by
  subst hK
  intro pins s σ H x y v u Q I rx ry h
  obtain ⟨b,hn,he,q⟩:=h
  exact (he.rc I hn rx ry hu).1 X.prog X.w X.xe _ ⟨.bl b,H,I,rfl,q⟩
theorem op_neD {K:PySem.W.Frag} (hK:X.K = K) (hu:X.A.units + 8 < cLine):OpR X (compareOp .NotEq) (fun x y H Q=>∃ b,¬ (flatV x = true∧flatV y = true)∧EqD K H 8 x y b∧Q (.bl (!b)) H):=by
  subst hK
  intro pins s σ H x y v u Q I rx ry h
  obtain ⟨b,hn,he,q⟩:=h
  exact (he.rc I hn rx ry hu).2 X.prog X.w X.xe _ ⟨.bl (!b),H,I,rfl,q⟩
theorem hu8 {A:Around} {k:Nat} (hr:Room k A):A.units + 8 < cLine:=by have:=hr.units; omega
end
end L2
namespace L2
open PySem PySem.Spec PyProof.Rows
section
variable {X:Cx}
theorem vals_get:∀ {xs:List V} {us:List Value},xs.length = us.length→(∀ (j:Nat) u,us[j]? = some u→∃ x,xs[j]? = some x∧RelV x u)→Vals xs us
  | [],[],_,_=>.nil
  | [],_ :: _,h,_=>by simp at h
  | _ :: _,[],h,_=>by simp at h
  | x :: xs,u :: us,hl,h=>by
    obtain ⟨x',e,r⟩:=h 0 u rfl
    cases e
    refine .cons r (vals_get (by simpa using hl) fun j v hv=>?_)
    obtain ⟨y,e,r⟩:=h (j + 1) v (by simpa using hv)
    exact ⟨y,by simpa using e,r⟩
theorem call_sorted_dict (hc:X.calm = true):CallR X (.builtin "sorted") (fun xs H Q=>∃ (p:Addr) (kvs:List (Key × V)) (ns:List Int),xs = [.ref p]∧H p = some (.dK kvs)∧kvs.map (·.1) = ns.map Sum.inl∧ns.length < 64∧∀ (l:Addr) (ms:List Int),H l = none→ms.Perm ns→ms.Pairwise (·≤·)→Q (.ref l) (upd H l (.lst (ms.map V.int)))):=by
  intro pins s σ H xs us Q I r h
  obtain ⟨p,kvs,ns,rfl,hp,hns,h64,q⟩:=h
  obtain ⟨u,rfl,rx⟩:=vals1 r
  cases rx
  obtain ⟨hz,lo,vs,rv,hD⟩:=(show kvs.length≤sizeLine∧(p == sysModules) = false∧∃ vs,KV kvs vs∧s.heap.DictOf (mixKind X.prog X.w) p vs from I.hok p _ hp)
  obtain ⟨ep,hat⟩:=hD.dictAt
  have hl:kvs.length = vs.length:=Paired.length rv
  have hnl:kvs.length = ns.length:=by have:=congrArg List.length hns; rw [List.length_map,List.length_map] at this; exact this
  refine Calls.call_function_entry kind_sorted plain_sorted entry_sorted (args_sorted1 _) ?_
  unfold Builtin.«sorted»
  refine wpAny_bind (m:=checkCount "sorted" 1 1 _) (wpAny_pure ?_)
  refine wpAny_bind (PySem.W.kdu_collect (PySem.W.kdl_dict (knd:=mixKind X.prog X.w) (kvs:=vs) (ep:=ep) lo) (I.ok.hd hc) hat (by omega) fun h' tk acc hk hacc=>?_)
  have hoL:(h'.push (seqObj "list" acc.toList.toArray 0)).get? h'.objs.size = some (seqObj "list" acc.toList.toArray 0):=Heap.get?_push_size _ rfl
  have hv:Vals (ns.map V.int) acc.toList:=by
    refine vals_get (by rw [List.length_map]; have:=hacc.1; simp; omega) fun j v hv=>?_
    obtain ⟨k,x,hx,hkv⟩:=hacc.2 j v (by rw [← Array.getElem?_toList]; exact hv)
    obtain ⟨y,hy,e1,_⟩:=pd_ta rv hx
    have e2:(ns.map (Sum.inl:Int→Key))[j]? = some y.1:=by rw [← hns,List.getElem?_map,hy]; rfl
    rw [List.getElem?_map] at e2
    cases hj:ns[j]? with
    | none=>rw [hj] at e2; cases e2
    | some i =>
      rw [hj] at e2
      have e3:(Sum.inl i:Key) = y.1:=Option.some.inj e2
      refine ⟨.int i,by rw [List.getElem?_map,hj]; rfl,?_⟩
      have e1':y.1 = k:=e1
      rw [← e1',← e3] at hkv
      rcases keyIs_shape (k:=(Sum.inl i:Key)) (v:=v) hkv with ⟨i',t,e4,rfl⟩ | ⟨z,t,e4,rfl⟩
      · cases e4; exact ⟨_,rfl⟩
      · cases e4
  have hi:IntsAre acc.toList ns:=intsAre_of hv
  have hal:acc.toList.length = ns.length:=hi.length
  refine wpAny_bind (wpAny_newList ?_ (hsz:=by rw [hal]; exact Nat.le_of_lt (small1000 (by omega))))
  show wpAny _ _ _ _ _ { s with heap:=h'.push (seqObj "list" acc.toList.toArray 0),toks:=tk }
  refine wpAny_bind (wpAny_holding (wpAny_call_entry slot_list_sort ⟨_,hoL,rfl⟩ entry_list_sort (list_sort_tree hoL hi (by omega) fun out ms a1 a2 a3=>⟨_,rfl,?_⟩) (args_list_sort _)))
  refine wpAny_pure ⟨_,rfl,?_⟩
  have I1:Inv X pins σ H { s with heap:=h',toks:=tk }:=I.kept hk
  obtain ⟨e,he⟩:=sortedHeap_at (vs:=acc.toList) (out:=out) hoL
  have hf:H h'.objs.size = none:=I1.hok.fresh (Nat.le_refl _)
  have hlm:=a2.length_eq
  have s64:=small1000 (n:=ms.length) (by omega)
  refine ⟨.ref h'.objs.size,_,I1.laid (o:=.lst (ms.map V.int)) (fun b o e=>?_) (Nat.le_refl _) ?_,rfl,q _ ms hf a2 a3⟩
  · have lb:=Heap.lt_size e
    rw [sortedHeap_old (Nat.ne_of_lt lb) (by rw [size_push']; exact Nat.lt_succ_of_lt lb)]
    exact Heap.get?_push_of_some _ e
  · refine ⟨by rw [List.length_map]; exact Nat.le_of_lt s64,out.toList,e,vals_ints a1,?_⟩
    simpa using he
end
end L2
namespace Bdd
abbrev Rm:=Option (Nat × Nat × Nat)
def lev (n:Nat) (rs:List Rm) (k:Nat):Nat:=match rs[k]? with
  | some (some (i,_,_))=>i
  | _=>n
structure Bk (n:Nat) (rs:List Rm):Prop where
  h0:rs[0]? = some none
  h1:rs[1]? = some none
  rm:∀ k,2≤k→k < rs.length→∃ i lo hi,rs[k]? = some (some (i,lo,hi))∧i < n∧lo < k∧hi < k∧lo≠hi∧i < lev n rs lo∧i < lev n rs hi
  uq:∀ (k l:Nat) (x:Nat × Nat × Nat),rs[k]? = some (some x)→rs[l]? = some (some x)→k = l
abbrev Row:=Nat→Bool
def put (r:Row) (i:Nat) (v:Bool):Row:=fun j=>if j = i then v else r j
def lead (rs:List Rm) (r:Row):Nat→Nat→Nat
  | 0,k=>k
  | f + 1,k=>match rs[k]? with
    | some (some (i,lo,hi))=>lead rs r f (if r i then hi else lo)
    | _=>k
theorem lead_fuel {n:Nat} {rs:List Rm} (B:Bk n rs) (r:Row):∀ (f g k:Nat),k≤f→k≤g→k < rs.length→lead rs r f k = lead rs r g k
  | 0,0,k,_,_,_=>rfl
  | 0,g + 1,k,h,_,_=>by
    have e:k = 0:=by omega
    subst e
    show 0 = lead rs r (g + 1) 0
    unfold lead
    rw [B.h0]
  | f + 1,0,k,_,h,_=>by
    have e:k = 0:=by omega
    subst e
    show lead rs r (f + 1) 0 = 0
    unfold lead
    rw [B.h0]
  | f + 1,g + 1,k,hf,hg,hk=>by
    by_cases h2:2≤k
    · obtain ⟨i,lo,hi,e,_,hlo,hhi,_⟩:=B.rm k h2 hk
      unfold lead
      rw [e]
      show lead rs r f (if r i then hi else lo) = lead rs r g (if r i then hi else lo)
      refine lead_fuel B r f g _ ?_ ?_ ?_ <;> (split <;> omega)
    · have:k = 0∨k = 1:=by omega
      rcases this with e | e <;> subst e <;> unfold lead
      · rw [B.h0]
      · rw [B.h1]
def yes (rs:List Rm) (k:Nat) (r:Row):Bool:=lead rs r k k == 1
section
variable {n:Nat} {rs:List Rm} (B:Bk n rs)
include B
theorem len2:2≤rs.length:=by
  have:=(List.getElem?_eq_some_iff.mp B.h1).1
  omega
theorem yes_no (r:Row):yes rs 0 r = false:=rfl
theorem yes_yes (r:Row):yes rs 1 r = true:=by
  unfold yes lead
  rw [B.h1]
  rfl
theorem lead_step {k i lo hi:Nat} (e:rs[k]? = some (some (i,lo,hi))) (r:Row):lead rs r k k = lead rs r (if r i then hi else lo) (if r i then hi else lo):=by
  have hk:=(List.getElem?_eq_some_iff.mp e).1
  have k2:2≤k:=by
    by_cases h:2≤k
    · exact h
    · exfalso
      have:k = 0∨k = 1:=by omega
      rcases this with z | z <;> subst z
      · rw [B.h0] at e; cases e
      · rw [B.h1] at e; cases e
  obtain ⟨i',lo',hi',e',_,hlo,hhi,_⟩:=B.rm k k2 hk
  rw [e] at e'
  cases e'
  obtain ⟨m,rfl⟩:∃ m,k = m + 1:=⟨k - 1,by omega⟩
  show (match rs[m + 1]? with | some (some (i,lo,hi))=>lead rs r m (if r i then hi else lo) | _=>m + 1) = _
  rw [e]
  show lead rs r m (if r i then hi else lo) = _
  refine lead_fuel B r _ _ _ ?_ (Nat.le_refl _) ?_ <;> (split <;> omega)
theorem yes_step {k i lo hi:Nat} (e:rs[k]? = some (some (i,lo,hi))) (r:Row):yes rs k r = if r i then yes rs hi r else yes rs lo r:=by
  unfold yes
  rw [lead_step B e r]
  split <;> rfl
theorem lev_of {k i lo hi:Nat} (e:rs[k]? = some (some (i,lo,hi))):lev n rs k = i:=by unfold lev; rw [e]
theorem lev_no:lev n rs 0 = n:=by unfold lev; rw [B.h0]
theorem lev_yes:lev n rs 1 = n:=by unfold lev; rw [B.h1]
theorem lev_le (k:Nat) (hk:k < rs.length):lev n rs k≤n:=by
  by_cases h2:2≤k
  · obtain ⟨i,lo,hi,e,hi',_⟩:=B.rm k h2 hk
    rw [lev_of B e]; omega
  · have:k = 0∨k = 1:=by omega
    rcases this with z | z <;> subst z
    · rw [lev_no B]; exact Nat.le_refl _
    · rw [lev_yes B]; exact Nat.le_refl _
theorem yes_congr:∀ (m k:Nat),k≤m→k < rs.length→∀ {r r':Row},(∀ i,lev n rs k≤i→i < n→r i = r' i)→yes rs k r = yes rs k r'
  | m,k,hm,hk,r,r',h=>by
    by_cases h2:2≤k
    · obtain ⟨i,lo,hi,e,hin,hlo,hhi,_,l1,l2⟩:=B.rm k h2 hk
      have lk:=lev_of B e
      rw [yes_step B e,yes_step B e,h i (by omega) hin]
      match m,hm with
      | 0,hm=>omega
      | m + 1,hm =>
        rw [yes_congr m hi (by omega) (by omega) fun j hj hjn=>h j (by omega) hjn,yes_congr m lo (by omega) (by omega) fun j hj hjn=>h j (by omega) hjn]
    · have:k = 0∨k = 1:=by omega
      rcases this with z | z <;> subst z
      · rfl
      · rw [yes_yes B,yes_yes B]
theorem yes_put {k i:Nat} (hk:k < rs.length) (h:i < lev n rs k) (r:Row) (v:Bool):yes rs k (put r i v) = yes rs k r:=by
  refine yes_congr B k k (Nat.le_refl _) hk fun j hj _=>?_
  unfold put
  rw [if_neg (by omega)]
theorem yes_lo {k i lo hi:Nat} (e:rs[k]? = some (some (i,lo,hi))) (hk:k < rs.length) (r:Row):yes rs k (put r i false) = yes rs lo r∧yes rs k (put r i true) = yes rs hi r:=by
  have k2:2≤k:=by
    by_cases h:2≤k
    · exact h
    · exfalso
      have:k = 0∨k = 1:=by omega
      rcases this with z | z <;> subst z
      · rw [B.h0] at e; cases e
      · rw [B.h1] at e; cases e
  obtain ⟨i',lo',hi',e',_,hlo,hhi,_,l1,l2⟩:=B.rm k k2 hk
  rw [e] at e'
  cases e'
  constructor
  · rw [yes_step B e]
    have z:put r i false i = false:=by unfold put; rw [if_pos rfl]
    rw [z,if_neg Bool.false_ne_true]
    exact yes_put B (by omega) l1 r false
  · rw [yes_step B e]
    have z:put r i true i = true:=by unfold put; rw [if_pos rfl]
    rw [z,if_pos rfl]
    exact yes_put B (by omega) l2 r true
theorem one_room:∀ (m k l:Nat),(k≤m∧l≤m)→k < rs.length→l < rs.length→(∀ r,yes rs k r = yes rs l r)→k = l
  | m,k,l,hm,hk,hl,h=>by
    by_cases k2:2≤k
    · obtain ⟨i,lo,hi,e,hin,hlo,hhi,hne,l1,l2⟩:=B.rm k k2 hk
      by_cases l2':2≤l
      · obtain ⟨j,lo',hi',e',hjn,hlo',hhi',hne',l1',l2''⟩:=B.rm l l2' hl
        match m,hm with
        | 0,hm=>omega
        | m + 1,hm =>
          rcases Nat.lt_trichotomy i j with q | q | q
          · exfalso
            refine hne (one_room m lo hi (by omega) (by omega) (by omega) fun r=>?_)
            have z:=yes_lo B e hk r
            rw [← z.1,← z.2,h,h,yes_put B hl (by rw [lev_of B e']; exact q),yes_put B hl (by rw [lev_of B e']; exact q)]
          · subst q
            have a1:lo = lo':=one_room m lo lo' (by omega) (by omega) (by omega) fun r=>by rw [← (yes_lo B e hk r).1,← (yes_lo B e' hl r).1,h]
            have a2:hi = hi':=one_room m hi hi' (by omega) (by omega) (by omega) fun r=>by rw [← (yes_lo B e hk r).2,← (yes_lo B e' hl r).2,h]
            subst a1 a2
            exact B.uq k l _ e e'
          · exfalso
            refine hne' (one_room m lo' hi' (by omega) (by omega) (by omega) fun r=>?_)
            have z:=yes_lo B e' hl r
            rw [← z.1,← z.2,← h,← h,yes_put B hk (by rw [lev_of B e]; exact q),yes_put B hk (by rw [lev_of B e]; exact q)]
      · exfalso
        match m,hm with
        | 0,hm=>omega
        | m + 1,hm =>
          have ll:lev n rs l = n:=by
            have:l = 0∨l = 1:=by omega
            rcases this with z | z <;> subst z
            · exact lev_no B
            · exact lev_yes B
          refine hne (one_room m lo hi (by omega) (by omega) (by omega) fun r=>?_)
          have z:=yes_lo B e hk r
          rw [← z.1,← z.2,h,h,yes_put B hl (by omega),yes_put B hl (by omega)]
    · by_cases l2':2≤l
      · exfalso
        obtain ⟨j,lo',hi',e',hjn,hlo',hhi',hne',l1',l2''⟩:=B.rm l l2' hl
        match m,hm with
        | 0,hm=>omega
        | m + 1,hm =>
          have ll:lev n rs k = n:=by
            have:k = 0∨k = 1:=by omega
            rcases this with z | z <;> subst z
            · exact lev_no B
            · exact lev_yes B
          refine hne' (one_room m lo' hi' (by omega) (by omega) (by omega) fun r=>?_)
          have z:=yes_lo B e' hl r
          rw [← z.1,← z.2,← h,← h,yes_put B hk (by omega),yes_put B hk (by omega)]
      · have a:k = 0∨k = 1:=by omega
        have b:l = 0∨l = 1:=by omega
        have z:=h fun _=>false
        rcases a with a | a <;> rcases b with b | b <;> subst a <;> subst b
        · rfl
        · rw [yes_no B,yes_yes B] at z; cases z
        · rw [yes_no B,yes_yes B] at z; cases z
        · rfl
end
theorem get_snoc {rs:List Rm} {x:Rm} {k:Nat} (h:k < rs.length):(rs ++ [x])[k]? = rs[k]?:=List.getElem?_append_left h
theorem lev_snoc {n:Nat} {rs:List Rm} {x:Rm} {k:Nat} (h:k < rs.length):lev n (rs ++ [x]) k = lev n rs k:=by
  unfold lev; rw [get_snoc h]
theorem Bk.snoc {n:Nat} {rs:List Rm} (B:Bk n rs) {i lo hi:Nat} (hin:i < n) (hlo:lo < rs.length) (hhi:hi < rs.length) (hne:lo≠hi) (l1:i < lev n rs lo) (l2:i < lev n rs hi) (new:some (i,lo,hi) ∉ rs):Bk n (rs ++ [some (i,lo,hi)]) where
  h0:=by rw [get_snoc (by have:=len2 B; omega)]; exact B.h0
  h1:=by rw [get_snoc (by have:=len2 B; omega)]; exact B.h1
  rm:=fun k h2 hk=>by
    rw [List.length_append,List.length_singleton] at hk
    by_cases hlt:k < rs.length
    · obtain ⟨i',lo',hi',e,a1,a2,a3,a4,a5,a6⟩:=B.rm k h2 hlt
      exact ⟨i',lo',hi',by rw [get_snoc hlt]; exact e,a1,a2,a3,a4,by rw [lev_snoc (by omega)]; exact a5,by rw [lev_snoc (by omega)]; exact a6⟩
    · have e:k = rs.length:=by omega
      subst e
      exact ⟨i,lo,hi,by simp,hin,hlo,hhi,hne,by rw [lev_snoc hlo]; exact l1,by rw [lev_snoc hhi]; exact l2⟩
  uq:=fun k l x hk hl=>by
    have lk:=(List.getElem?_eq_some_iff.mp hk).1
    have ll:=(List.getElem?_eq_some_iff.mp hl).1
    rw [List.length_append,List.length_singleton] at lk ll
    have last:∀ m,m = rs.length→(rs ++ [some (i,lo,hi)])[m]? = some (some x)→x = (i,lo,hi):=fun m hm h=>by
      subst hm
      simp at h
      exact h.symm
    by_cases h1:k < rs.length
    · by_cases h2:l < rs.length
      · rw [get_snoc h1] at hk
        rw [get_snoc h2] at hl
        exact B.uq k l x hk hl
      · exfalso
        have e:=last l (by omega) hl
        subst e
        rw [get_snoc h1] at hk
        exact new (List.mem_of_getElem? hk)
    · by_cases h2:l < rs.length
      · exfalso
        have e:=last k (by omega) hk
        subst e
        rw [get_snoc h2] at hl
        exact new (List.mem_of_getElem? hl)
      · omega
theorem lead_snoc {n:Nat} {rs:List Rm} (B:Bk n rs) {x:Rm} (r:Row):∀ (f k:Nat),k < rs.length→lead (rs ++ [x]) r f k = lead rs r f k
  | 0,_,_=>rfl
  | f + 1,k,hk=>by
    unfold lead
    rw [get_snoc hk]
    by_cases h2:2≤k
    · obtain ⟨i,lo,hi,e,_,hlo,hhi,_⟩:=B.rm k h2 hk
      rw [e]
      show lead (rs ++ [x]) r f (if r i then hi else lo) = lead rs r f (if r i then hi else lo)
      exact lead_snoc B r f _ (by split <;> omega)
    · have:k = 0∨k = 1:=by omega
      rcases this with z | z <;> subst z
      · rw [B.h0]
      · rw [B.h1]
theorem yes_snoc {n:Nat} {rs:List Rm} (B:Bk n rs) {x:Rm} {k:Nat} (hk:k < rs.length) (r:Row):yes (rs ++ [x]) k r = yes rs k r:=by
  unfold yes; rw [lead_snoc B r k k hk]
def Grown (rs rs':List Rm):Prop:=∃ xs,rs' = rs ++ xs
theorem Grown.refl (rs:List Rm):Grown rs rs:=⟨[],by simp⟩
theorem Grown.trans {a b c:List Rm} (h:Grown a b) (k:Grown b c):Grown a c:=by
  obtain ⟨x,rfl⟩:=h
  obtain ⟨y,rfl⟩:=k
  exact ⟨x ++ y,by rw [List.append_assoc]⟩
theorem Grown.len {a b:List Rm} (h:Grown a b):a.length≤b.length:=by
  obtain ⟨x,rfl⟩:=h
  rw [List.length_append]; omega
theorem Grown.get {a b:List Rm} (h:Grown a b) {k:Nat} (hk:k < a.length):b[k]? = a[k]?:=by
  obtain ⟨x,rfl⟩:=h
  exact List.getElem?_append_left hk
theorem Grown.snoc (rs:List Rm) (x:Rm):Grown rs (rs ++ [x]):=⟨[x],rfl⟩
theorem Grown.lev {n:Nat} {a b:List Rm} (h:Grown a b) {k:Nat} (hk:k < a.length):lev n b k = lev n a k:=by
  unfold Bdd.lev; rw [h.get hk]
theorem Grown.lead {n:Nat} {a b:List Rm} (B:Bk n a) (h:Grown a b) (r:Row):∀ (f k:Nat),k < a.length→lead b r f k = lead a r f k
  | 0,_,_=>rfl
  | f + 1,k,hk=>by
    unfold Bdd.lead
    rw [h.get hk]
    by_cases h2:2≤k
    · obtain ⟨i,lo,hi,e,_,hlo,hhi,_⟩:=B.rm k h2 hk
      rw [e]
      show Bdd.lead b r f (if r i then hi else lo) = Bdd.lead a r f (if r i then hi else lo)
      exact Grown.lead B h r f _ (by split <;> omega)
    · have:k = 0∨k = 1:=by omega
      rcases this with z | z <;> subst z
      · rw [B.h0]
      · rw [B.h1]
theorem Grown.yes {n:Nat} {a b:List Rm} (B:Bk n a) (h:Grown a b) {k:Nat} (hk:k < a.length) (r:Row):yes b k r = yes a k r:=by
  unfold Bdd.yes; rw [Grown.lead B h r k k hk]
inductive Reach (rs:List Rm):Nat→Nat→Prop
  | refl (k:Nat):Reach rs k k
  | lo {k i lo hi j:Nat} (e:rs[k]? = some (some (i,lo,hi))) (h:Reach rs lo j):Reach rs k j
  | hi {k i lo hi j:Nat} (e:rs[k]? = some (some (i,lo,hi))) (h:Reach rs hi j):Reach rs k j
theorem Reach.step {rs:List Rm} {k j i lo hi:Nat} (h:Reach rs k j) (e:rs[j]? = some (some (i,lo,hi))):Reach rs k lo∧Reach rs k hi:=by
  induction h with
  | refl k=>exact ⟨.lo e (.refl _),.hi e (.refl _)⟩
  | lo e' _ ih=>exact ⟨.lo e' (ih e).1,.lo e' (ih e).2⟩
  | hi e' _ ih=>exact ⟨.hi e' (ih e).1,.hi e' (ih e).2⟩
theorem Reach.closed {rs:List Rm} {S:Nat→Prop} {k j:Nat} (hk:S k) (hc:∀ {m i lo hi},S m→rs[m]? = some (some (i,lo,hi))→S lo∧S hi) (h:Reach rs k j):S j:=by
  induction h with
  | refl k=>exact hk
  | lo e _ ih=>exact ih (hc hk e).1
  | hi e _ ih=>exact ih (hc hk e).2
theorem Reach.lt {n:Nat} {rs:List Rm} (B:Bk n rs) {k j:Nat} (h:Reach rs k j):k < rs.length→j < rs.length:=by
  induction h with
  | refl k=>exact id
  | @lo k i lo hi j e _ ih =>
    intro hk
    refine ih ?_
    by_cases h2:2≤k
    · obtain ⟨i',lo',hi',e',_,a,b,_⟩:=B.rm k h2 hk
      rw [e] at e'
      cases e'
      omega
    · exfalso
      have:k = 0∨k = 1:=by omega
      rcases this with z | z <;> subst z
      · rw [B.h0] at e; cases e
      · rw [B.h1] at e; cases e
  | @hi k i lo hi j e _ ih =>
    intro hk
    refine ih ?_
    by_cases h2:2≤k
    · obtain ⟨i',lo',hi',e',_,a,b,_⟩:=B.rm k h2 hk
      rw [e] at e'
      cases e'
      omega
    · exfalso
      have:k = 0∨k = 1:=by omega
      rcases this with z | z <;> subst z
      · rw [B.h0] at e; cases e
      · rw [B.h1] at e; cases e
theorem few {n:Nat} {rs:List Rm} (B:Bk n rs):∀ (m k:Nat),k≤m→k < rs.length→∃ c:List Nat,c.length + 1≤2 ^ (n - lev n rs k)∧∀ j,Reach rs k j→j < 2∨j∈c
  | m,k,hm,hk=>by
    by_cases h2:2≤k
    · obtain ⟨i,lo,hi,e,hin,hlo,hhi,_,l1,l2⟩:=B.rm k h2 hk
      match m,hm with
      | 0,hm=>omega
      | m + 1,hm =>
        obtain ⟨c1,a1,a2⟩:=few B m lo (by omega) (by omega)
        obtain ⟨c2,b1,b2⟩:=few B m hi (by omega) (by omega)
        have lk:lev n rs k = i:=lev_of B e
        refine ⟨k :: (c1 ++ c2),?_,fun j h=>?_⟩
        · rw [lk,List.length_cons,List.length_append]
          have p1:2 ^ (n - lev n rs lo)≤2 ^ (n - i - 1):=Nat.pow_le_pow_right (by decide) (by omega)
          have p2:2 ^ (n - lev n rs hi)≤2 ^ (n - i - 1):=Nat.pow_le_pow_right (by decide) (by omega)
          have p3:2 ^ (n - i) = 2 ^ (n - i - 1) + 2 ^ (n - i - 1):=by
            obtain ⟨d,hd⟩:∃ d,n - i = d + 1:=⟨n - i - 1,by omega⟩
            rw [hd,Nat.pow_succ,Nat.add_sub_cancel]
            omega
          omega
        · cases h with
          | refl _=>exact .inr List.mem_cons_self
          | lo e' h' =>
            rw [e] at e'
            cases e'
            rcases a2 j h' with z | z
            · exact .inl z
            · exact .inr (List.mem_cons_of_mem _ (List.mem_append_left _ z))
          | hi e' h' =>
            rw [e] at e'
            cases e'
            rcases b2 j h' with z | z
            · exact .inl z
            · exact .inr (List.mem_cons_of_mem _ (List.mem_append_right _ z))
    · refine ⟨[],Nat.one_le_two_pow,fun j h=>.inl ?_⟩
      have:k = 0∨k = 1:=by omega
      cases h with
      | refl _=>omega
      | lo e' _ =>
        exfalso
        rcases this with z | z <;> subst z
        · rw [B.h0] at e'; cases e'
        · rw [B.h1] at e'; cases e'
      | hi e' _ =>
        exfalso
        rcases this with z | z <;> subst z
        · rw [B.h0] at e'; cases e'
        · rw [B.h1] at e'; cases e'
theorem sub_len {α:Type} [DecidableEq α]:∀ {xs ys:List α},xs.Nodup→(∀ x∈xs,x∈ys)→xs.length≤ys.length
  | [],_,_,_=>Nat.zero_le _
  | x :: xs,ys,nd,h=>by
    obtain ⟨h1,h2⟩:=List.nodup_cons.mp nd
    have hx:=h x List.mem_cons_self
    have ih:=sub_len (xs:=xs) (ys:=ys.erase x) h2 fun y hy=>(List.mem_erase_of_ne (fun e:y = x=>h1 (by rw [← e]; exact hy))).mpr (h y (List.mem_cons_of_mem _ hy))
    rw [List.length_erase_of_mem hx] at ih
    have:=List.length_pos_of_mem hx
    rw [List.length_cons]
    omega
theorem below_len {n:Nat} {rs:List Rm} (B:Bk n rs) {k:Nat} (hk:k < rs.length) {xs:List Nat} (nd:xs.Nodup) (h:∀ x∈xs,Reach rs k x):xs.length≤2 ^ n + 1:=by
  obtain ⟨c,c1,c2⟩:=few B k k (Nat.le_refl _) hk
  have q:=sub_len (ys:=0 :: 1 :: c) nd fun x hx=>by
    rcases c2 x (h x hx) with z | z
    · have:x = 0∨x = 1:=by omega
      rcases this with w | w <;> simp [w]
    · exact List.mem_cons_of_mem _ (List.mem_cons_of_mem _ z)
  have p:2 ^ (n - lev n rs k)≤2 ^ n:=Nat.pow_le_pow_right (by decide) (by omega)
  rw [List.length_cons,List.length_cons] at q
  omega
theorem lt_of_le_nodup:∀ {xs:List Int},xs.Pairwise (·≤·)→xs.Nodup→xs.Pairwise (· < ·)
  | [],_,_=>.nil
  | x :: xs,h,nd=>by
    obtain ⟨a1,a2⟩:=List.pairwise_cons.mp h
    obtain ⟨b1,b2⟩:=List.nodup_cons.mp nd
    refine List.pairwise_cons.mpr ⟨fun y hy=>?_,lt_of_le_nodup a2 b2⟩
    have:=a1 y hy
    have:x≠y:=fun e=>b1 (e ▸ hy)
    omega
end Bdd
namespace L2
theorem hu9 {A:PySem.Around} {k:Nat} (hr:Room k A):A.units + 9 < PySem.cLine:=by have:=hr.units; omega
end L2
namespace Sen
open PySem L2 Bdd
abbrev Foot:=Addr→Prop
def Away (F:Foot) (H H':Hp):Prop:=∀ x o,H x = some o→¬ F x→H' x = some o
def bookMeths:List Str:=["room", "size", "order", "enter", "worth_at", "below"]
structure BookLike (C:Addr) (B:Hp→Addr→List Str→List Rm→Foot→Prop):Prop where
  ins:∀ {H b os rs F},B H b os rs F→∃ dx fs,H b = some (.ins C dx fs)∧∀ m∈bookMeths,fs.lookup m = none
  frame:∀ {H H' b os rs F},B H b os rs F→(∀ x o,H x = some o→F x→H' x = some o)→Tups H H'→B H' b os rs F
  there:∀ {H b os rs F x},B H b os rs F→F x→H x≠none
  bk:∀ {H b os rs F},B H b os rs F→Bk os.length rs
  ord:∀ {H b os rs F},B H b os rs F→IsOrd os
theorem BookLike.same {C:Addr} {B:Hp→Addr→List Str→List Rm→Foot→Prop} (L:BookLike C B) {H H':Hp} {b:Addr} {os:List Str} {rs:List Rm} {F:Foot} (h:B H b os rs F) (g:Same H H'):B H' b os rs F :=
  L.frame h (fun x o e _=>g x o e) (Tups.of g)
theorem BookLike.fresh {C:Addr} {B:Hp→Addr→List Str→List Rm→Foot→Prop} (L:BookLike C B) {H:Hp} {b x:Addr} {os:List Str} {rs:List Rm} {F:Foot} (h:B H b os rs F) (e:H x = none):¬ F x:=fun q=>L.there h q e
theorem Away.of_same {F:Foot} {H H':Hp} (g:Same H H'):Away F H H':=fun x o e _=>g x o e
def RoomV (os:List Str) (H:Hp) (x:Rm) (v:V):Prop:=match x with
  | none=>v = .non
  | some (i,lo,hi)=>∃ (p:Addr) (y:Str),v = .ref p∧os[i]? = some y∧H p = some (.tup [.str y,.int (lo:Nat),.int (hi:Nat)])
def envR (os:List Str) (r:Row):Str→Bool:=fun x=>r (ix os x)
section
variable (B:Hp→Addr→List Str→List Rm→Foot→Prop) (K:PySem.W.Frag) (C:Addr)
inductive spBookInit (vs:List V) (H:Hp) (Q:VK) (E9:XK):Prop
  | mk (b dx l:Addr) (os:List Str) (_:vs = [.ref b,.ref l]) (_:H b = some (.ins C dx [])) (_:b≠dx) (_:SqL K H l (os.map V.str)) (_:IsOrd os) (_:∀ (H':Hp) (F:Foot),(∀ x o,H x = some o→x≠b→H' x = some o)→B H' b os [none,none] F→(∀ x,F x→x = b∨x = dx∨H x = none)→Q .non H'):spBookInit vs H Q E9
inductive spBookSize (vs:List V) (H:Hp) (Q:VK) (E9:XK):Prop
  | mk (b:Addr) (os:List Str) (rs:List Rm) (F:Foot) (_:vs = [.ref b]) (_:B H b os rs F) (_:∀ H',Same H H'→Q (.int (rs.length:Nat)) H'):spBookSize vs H Q E9
inductive spBookOrder (vs:List V) (H:Hp) (Q:VK) (E9:XK):Prop
  | mk (b:Addr) (os:List Str) (rs:List Rm) (F:Foot) (_:vs = [.ref b]) (_:B H b os rs F) (_:∀ (l:Addr) (H':Hp),Same H H'→H l = none→H' l = some (.lst (os.map V.str))→Q (.ref l) H'):spBookOrder vs H Q E9
inductive spBookRoom (vs:List V) (H:Hp) (Q:VK) (E9:XK):Prop
  | mk (b:Addr) (os:List Str) (rs:List Rm) (F:Foot) (k:Nat) (x:Rm) (_:vs = [.ref b,.int k]) (_:B H b os rs F) (_:rs[k]? = some x) (_:∀ (v:V) (H':Hp),Same H H'→RoomV os H' x v→Q v H'):spBookRoom vs H Q E9
end
theorem eq_ll {K:PySem.W.Frag} {H:Hp} {n:Nat} {p q:Addr} {xs ys:List V} (hp:SqL K H p xs) (hq:SqL K H q ys) (hl:xs.length = ys.length) (h:∀ (j:Nat) x y,xs[j]? = some x→ys[j]? = some y→EqD K H n x y true):EqD K H (n + 1) (.ref p) (.ref q) true:=by
  have z:=EqD.ll (e:=fun _=>true) hp hq hl h
  have e:(List.range xs.length).all (fun _=>true) = true:=by simp
  rw [e] at z
  exact z
theorem eq_flat {K:PySem.W.Frag} {H:Hp} {n:Nat} {x:V} (f:flatV x = true):EqD K H n x x true:=by
  have z:=EqD.flat (K:=K) (H:=H) (n:=n) f f
  rw [eqV_refl f] at z
  exact z
end Sen
namespace L2
open PySem PySem.Spec PyProof.Rows
theorem bt_sorted:bootBuiltins "sorted" = some (.builtin "sorted"):=by decide +kernel
theorem valV_key {κ:Type} [DecidableEq κ] {k:κ}:∀ {kvs:List (κ × V)},(valV kvs k).isSome = decide (k∈kvs.map (·.1))
  | []=>rfl
  | p :: r=>by
    by_cases e:p.1 = k
    · rw [valV_pos e]
      exact (decide_eq_true (by rw [List.map_cons,e]; exact List.mem_cons_self)).symm
    · rw [valV_neg e,valV_key (kvs:=r)]
      congr 1
      rw [List.map_cons,List.mem_cons]
      exact propext ⟨.inr,fun h=>h.elim (fun z=>absurd z.symm e) id⟩
end L2
namespace Bdd
open L2
structure Dfs (rs:List Rm) (k0:Nat) (ks ts:List Nat):Prop where
  nd:ks.Nodup
  r1:∀ x∈ks,Reach rs k0 x
  r2:∀ x∈ts,Reach rs k0 x
  st:k0∈ks∨k0∈ts
  cl:∀ m i lo hi,m∈ks→rs[m]? = some (some (i,lo,hi))→(lo∈ks∨lo∈ts)∧(hi∈ks∨hi∈ts)
  len:ts.length≤1 + 2 * ks.length
theorem Dfs.start (rs:List Rm) (k0:Nat):Dfs rs k0 [] [k0]:=⟨List.nodup_nil,fun x h=>by simp at h,fun x h=>by rw [List.mem_singleton.mp h]; exact .refl _,.inr List.mem_cons_self,fun m i lo hi h=>by simp at h,Nat.le_refl _⟩
theorem mem_drop1 {ks ts:List Nat} {x y:Nat} (hx:x∈ks) (h:y∈ks∨y∈ts ++ [x]):y∈ks∨y∈ts:=by
  rcases h with h | h
  · exact .inl h
  · rcases List.mem_append.mp h with h | h
    · exact .inr h
    · rw [List.mem_singleton.mp h]; exact .inl hx
theorem Dfs.skip {rs:List Rm} {k0 x:Nat} {ks ts:List Nat} (D:Dfs rs k0 ks (ts ++ [x])) (hx:x∈ks):Dfs rs k0 ks ts :=
  ⟨D.nd,D.r1,fun y h=>D.r2 y (List.mem_append_left _ h),mem_drop1 hx D.st,fun m i lo hi h e=>⟨mem_drop1 hx (D.cl m i lo hi h e).1,mem_drop1 hx (D.cl m i lo hi h e).2⟩,by have:=D.len; rw [List.length_append] at this; omega⟩
theorem nd_snoc {ks:List Nat} {x:Nat} (h:ks.Nodup) (hx:x ∉ ks):(ks ++ [x]).Nodup:=by
  rw [List.nodup_append]
  refine ⟨h,by simp,fun a ha b hb=>?_⟩
  rw [List.mem_singleton.mp hb]
  exact fun e=>hx (e ▸ ha)
theorem mem_to {ks ts us:List Nat} {x y:Nat} (h:y∈ks∨y∈ts ++ [x]):y∈ks ++ [x]∨y∈ts ++ us:=by
  rcases h with h | h
  · exact .inl (List.mem_append_left _ h)
  · rcases List.mem_append.mp h with h | h
    · exact .inr (List.mem_append_left _ h)
    · exact .inl (List.mem_append_right _ h)
theorem Dfs.add {rs:List Rm} {k0 x:Nat} {ks ts:List Nat} (us:List Nat) (D:Dfs rs k0 ks (ts ++ [x])) (hx:x ∉ ks) (h1:∀ y∈us,Reach rs k0 y) (h2:∀ i lo hi,rs[x]? = some (some (i,lo,hi))→lo∈us∧hi∈us) (h3:us.length≤2):Dfs rs k0 (ks ++ [x]) (ts ++ us):=by
  refine ⟨nd_snoc D.nd hx,fun y h=>?_,fun y h=>?_,mem_to D.st,fun m i lo hi h e=>?_,?_⟩
  · rcases List.mem_append.mp h with h | h
    · exact D.r1 y h
    · exact D.r2 y (List.mem_append_right _ h)
  · rcases List.mem_append.mp h with h | h
    · exact D.r2 y (List.mem_append_left _ h)
    · exact h1 y h
  · rcases List.mem_append.mp h with h | h
    · exact ⟨mem_to (D.cl m i lo hi h e).1,mem_to (D.cl m i lo hi h e).2⟩
    · rw [List.mem_singleton.mp h] at e
      exact ⟨.inr (List.mem_append_right _ (h2 i lo hi e).1),.inr (List.mem_append_right _ (h2 i lo hi e).2)⟩
  · have:=D.len
    rw [List.length_append,List.length_singleton] at this
    rw [List.length_append,List.length_append,List.length_singleton]
    omega
theorem Dfs.node {rs:List Rm} {k0 x i lo hi:Nat} {ks ts:List Nat} (D:Dfs rs k0 ks (ts ++ [x])) (hx:x ∉ ks) (e:rs[x]? = some (some (i,lo,hi))):Dfs rs k0 (ks ++ [x]) (ts ++ [lo,hi]):=by
  have r:=(D.r2 x (List.mem_append_right _ List.mem_cons_self)).step e
  refine D.add [lo,hi] hx (fun y h=>?_) (fun i' lo' hi' e'=>?_) (Nat.le_refl _)
  · simp at h
    rcases h with h | h <;> subst h
    · exact r.1
    · exact r.2
  · rw [e] at e'
    cases e'
    exact ⟨by simp,by simp⟩
theorem Dfs.done {rs:List Rm} {k0:Nat} {ks:List Nat} (D:Dfs rs k0 ks []) (j:Nat):j∈ks↔Reach rs k0 j:=by
  have no:∀ y,(y∈ks∨y∈([]:List Nat))→y∈ks:=fun y h=>h.elim id (fun z=>by cases z)
  refine ⟨D.r1 j,fun h=>?_⟩
  exact Reach.closed (S:=fun y=>y∈ks) (no _ D.st) (fun {m i lo hi} hm e=>⟨no _ (D.cl m i lo hi hm e).1,no _ (D.cl m i lo hi hm e).2⟩) h
theorem Dfs.room {n:Nat} {rs:List Rm} (B:Bk n rs) {k0 x:Nat} {ks ts:List Nat} (D:Dfs rs k0 ks (ts ++ [x])) (h0:k0 < rs.length) (hx:x ∉ ks):ks.length + 1≤rs.length:=by
  have z:=sub_len (xs:=ks ++ [x]) (ys:=List.range rs.length) (nd_snoc D.nd hx) fun y h=>?_
  · rw [List.length_append,List.length_range] at z; exact z
  · rw [List.mem_range]
    rcases List.mem_append.mp h with h | h
    · exact (D.r1 y h).lt B h0
    · rw [List.mem_singleton.mp h]
      exact (D.r2 x (List.mem_append_right _ List.mem_cons_self)).lt B h0
structure IsBelow (rs:List Rm) (k:Nat) (ms:List Int):Prop where
  up:ms.Pairwise (· < ·)
  mem:∀ x,x∈ms↔∃ j:Nat,x = j∧Reach rs k j
theorem IsBelow.of {rs:List Rm} {k:Nat} {ks:List Nat} {ms:List Int} (nd:ks.Nodup) (h:∀ j,j∈ks↔Reach rs k j) (pm:ms.Perm (ks.map fun (n:Nat)=>(n:Int))) (up:ms.Pairwise (·≤·)):IsBelow rs k ms:=by
  have nd':(ks.map fun (n:Nat)=>(n:Int)).Nodup:=by
    rw [List.Nodup,List.pairwise_map]
    exact nd.imp fun h e=>h (by omega)
  refine ⟨lt_of_le_nodup up (pm.nodup_iff.mpr nd'),fun x=>?_⟩
  rw [pm.mem_iff,List.mem_map]
  exact ⟨fun ⟨j,hj,e⟩=>⟨j,e.symm,(h j).mp hj⟩,fun ⟨j,e,hj⟩=>⟨j,(h j).mpr hj,e.symm⟩⟩
theorem IsBelow.len {n:Nat} {rs:List Rm} (B:Bk n rs) {k:Nat} (hk:k < rs.length) {ms:List Int} (h:IsBelow rs k ms):ms.length≤2 ^ n + 1:=by
  have z:=below_len B hk (xs:=ms.map Int.toNat) ?_ fun x hx=>?_
  · rw [List.length_map] at z; exact z
  · rw [List.Nodup,List.pairwise_map]
    refine List.Pairwise.imp_of_mem (fun {a b} ha hb hl e=>?_) h.up
    obtain ⟨j,e1,_⟩:=(h.mem a).mp ha
    obtain ⟨j',e2,_⟩:=(h.mem b).mp hb
    omega
  · obtain ⟨y,hy,e⟩:=List.mem_map.mp hx
    obtain ⟨j,e1,r⟩:=(h.mem y).mp hy
    have:x = j:=by omega
    rw [this]; exact r
end Bdd
namespace Sen
open PySem L2 Bdd
section
variable (B:Hp→Addr→List Str→List Rm→Foot→Prop)
inductive spBookBelow (vs:List V) (H:Hp) (Q:VK) (E9:XK):Prop
  | mk (b:Addr) (os:List Str) (rs:List Rm) (F:Foot) (k:Nat) (_:vs = [.ref b,.int k]) (_:B H b os rs F) (_:os.length≤5) (_:k < rs.length) (_:∀ (l:Addr) (H':Hp) (ms:List Int),Same H H'→H l = none→H' l = some (.lst (ms.map V.int))→IsBelow rs k ms→Q (.ref l) H'):spBookBelow vs H Q E9
end
end Sen
namespace Bdd
def Means (rs:List Rm) (k:Nat) (f:Row→Bool):Prop:=k < rs.length∧∀ r,yes rs k r = f r
theorem Means.grown {n:Nat} {a b:List Rm} (B:Bk n a) (g:Grown a b) {k:Nat} {f:Row→Bool} (h:Means a k f):Means b k f:=⟨Nat.lt_of_lt_of_le h.1 g.len,fun r=>by rw [g.yes B h.1]; exact h.2 r⟩
end Bdd
namespace L2
open PySem
theorem cutK {X:Cx} {all rest:List Stmt} {D:Ends} {Tf:TS→TS} {Pre:St→Hp→Prop} (Mid:St→Hp→Prop) (h1:∀ t,PSs X rest t→PSs X all (Tf t)) (h:∀ u:TS,(∀ σ H,Mid σ H→u D σ H)→∀ σ H,Pre σ H→Tf u D σ H)
    (hr:∃ t,PSs X rest t∧∀ σ H,Mid σ H→t D σ H):∃ t,PSs X all t∧∀ σ H,Pre σ H→t D σ H :=
  let ⟨t,a,b⟩:=hr
  ⟨Tf t,h1 t a,h t b⟩
theorem cut0 {X:Cx} {all:List Stmt} {D:Ends} {σ:St} {H:Hp} (h:∃ t,PSs X all t∧∀ σ' H',(σ' = σ∧H' = H)→t D σ' H'):∃ t,PSs X all t∧t D σ H :=
  let ⟨t,a,b⟩:=h
  ⟨t,a,b _ _ ⟨rfl,rfl⟩⟩
end L2
namespace Bdd
open Sen
def rowN (b:Nat):Row:=fun i=>b.testBit i
def bits (r:Row):Nat→Nat
  | 0=>0
  | n + 1=>if r n then bits r n + 2 ^ n else bits r n
theorem bits_lt (r:Row):∀ n,bits r n < 2 ^ n
  | 0=>Nat.zero_lt_one
  | n + 1=>by
    have ih:=bits_lt r n
    unfold bits
    rw [Nat.pow_succ]
    split <;> omega
theorem bits_bit (r:Row):∀ {n i:Nat},i < n→(bits r n).testBit i = r i
  | 0,i,h=>by omega
  | n + 1,i,h=>by
    have lt:=bits_lt r n
    have z:(bits r n).testBit n = false:=Nat.testBit_lt_two_pow lt
    unfold bits
    by_cases e:i = n
    · subst e
      cases hr:r i
      · rw [if_neg Bool.false_ne_true]; exact z
      · rw [if_pos rfl,tb_add_same,z]; rfl
    · have hi:i < n:=by omega
      split
      · rw [tb_add_lt hi]; exact bits_bit r hi
      · exact bits_bit r hi
theorem eq_bits {n a b:Nat} (ha:a < 2 ^ n) (hb:b < 2 ^ n) (h:∀ i,i < n→a.testBit i = b.testBit i):a = b :=
  Nat.eq_of_testBit_eq fun i=>by
    by_cases hi:i < n
    · exact h i hi
    · have:2 ^ n≤2 ^ i:=Nat.pow_le_pow_right (by decide) (by omega)
      rw [Nat.testBit_lt_two_pow (by omega),Nat.testBit_lt_two_pow (by omega)]
theorem bits_put {r:Row} {n i:Nat} (hi:i < n) (v:Bool):bits (put r i v) n = putBit (bits r n) i v:=by
  refine eq_bits (bits_lt _ _) (putBit_lt (bits_lt _ _) hi) fun j hj=>?_
  rw [bits_bit _ hj,putBit_bit,bits_bit _ hj]
  rfl
theorem bits_rowN {n b:Nat} (h:b < 2 ^ n):bits (rowN b) n = b:=eq_bits (bits_lt _ _) h fun i hi=>by rw [bits_bit _ hi]; rfl
theorem yes_bits {n:Nat} {rs:List Rm} (B:Bk n rs) {k:Nat} (hk:k < rs.length) (r:Row):yes rs k (rowN (bits r n)) = yes rs k r :=
  yes_congr B k k (Nat.le_refl _) hk fun i _ hi=>bits_bit r hi
theorem tab_inj {n N M:Nat} {f g:Nat→Bool} (h:IsTab n N f) (k:IsTab n M g) (e:∀ b,b < 2 ^ n→f b = g b):N = M :=
  Nat.eq_of_testBit_eq fun i=>by
    rw [h i,k i]
    by_cases hi:i < 2 ^ n
    · rw [e i hi]
    · rw [decide_eq_false hi]; rfl
theorem tab_val {n N:Nat} {f:Nat→Bool} (h:IsTab n N f) {b:Nat} (hb:b < 2 ^ n):N.testBit b = f b:=by rw [h b,decide_eq_true hb]; rfl
def Free (n:Nat) (f:Nat→Bool) (p:Nat):Prop:=∀ b,b < 2 ^ n→∀ v,f (putBit b p v) = f b
theorem putBit_self (b p:Nat):putBit b p (b.testBit p) = b:=by unfold putBit; rw [if_pos rfl]
theorem Free.of_flip {n p:Nat} {f:Nat→Bool} (h:∀ b,b < 2 ^ n→f (putBit b p (!b.testBit p)) = f b):Free n f p:=fun b hb v=>by
  by_cases e:v = b.testBit p
  · rw [e,putBit_self]
  · have:v = !b.testBit p:=by cases v <;> cases hh:b.testBit p <;> simp_all
    rw [this]; exact h b hb
theorem const_of_free {n:Nat} {f:Nat→Bool} (h:∀ p,p < n→Free n f p):∀ b,b < 2 ^ n→f b = f 0:=by
  have key:∀ m b,m≤n→b < 2 ^ n→(∀ i,m≤i→i < n→b.testBit i = false)→f b = f 0:=by
    intro m
    induction m with
    | zero =>
      intro b _ hb hz
      have:b = 0:=eq_bits hb (Nat.two_pow_pos n) fun i hi=>by rw [hz i (Nat.zero_le _) hi,Nat.zero_testBit]
      rw [this]
    | succ m ih =>
      intro b hm hb hz
      rw [← h m (by omega) b hb false]
      refine ih _ (by omega) (putBit_lt hb (by omega)) fun i hi hin=>?_
      rw [putBit_bit]
      by_cases e:i = m
      · rw [if_pos e]
      · rw [if_neg e]; exact hz i (by omega) hin
  exact fun b hb=>key n b (Nat.le_refl _) hb fun i hi hin=>by omega
theorem lev_gt {n:Nat} {rs:List Rm} (B:Bk n rs) {k p:Nat} (hk:k < rs.length) (hp:p < n) (h:∀ i,i≤p→∀ r v,yes rs k (put r i v) = yes rs k r):p < lev n rs k:=by
  by_cases k2:2≤k
  · obtain ⟨i,lo,hi,e,hin,hlo,hhi,hne,l1,l2⟩:=B.rm k k2 hk
    rw [lev_of B e]
    by_cases hip:i≤p
    · exfalso
      refine hne (one_room B (max lo hi) lo hi ⟨Nat.le_max_left _ _,Nat.le_max_right _ _⟩ (by omega) (by omega) fun r=>?_)
      have z:=yes_lo B e hk r
      rw [← z.1,← z.2,h i hip,h i hip]
    · omega
  · have:k = 0∨k = 1:=by omega
    rcases this with z | z <;> subst z
    · rw [lev_no B]; exact hp
    · rw [lev_yes B]; exact hp
theorem room_new {n m p k0 k1:Nat} {rs:List Rm} {f:Nat→Bool} (B:Bk n rs) (hp:p < n) (m0:k0 < rs.length) (m1:k1 < rs.length)
    (y0:∀ r,yes rs k0 r = f (putBit (bits r n) p false)) (y1:∀ r,yes rs k1 r = f (putBit (bits r n) p true)) (fr:∀ i,i < p→Free n f i)
    (dep:∃ b,b < 2 ^ n∧f (putBit b p false)≠f (putBit b p true)) (old:∀ j,j < m→¬ ∀ r,yes rs j r = f (bits r n)) (hl:∀ j,m≤j→j < rs.length→p < lev n rs j) :
    Bk n (rs ++ [some (p,k0,k1)])∧∀ r,yes (rs ++ [some (p,k0,k1)]) rs.length r = f (bits r n):=by
  have pb:∀ (r:Row) v,putBit (bits r n) p v < 2 ^ n:=fun r v=>putBit_lt (bits_lt _ _) hp
  have low:∀ (k:Nat) (w:Bool),k < rs.length→(∀ r,yes rs k r = f (putBit (bits r n) p w))→p < lev n rs k:=fun k w hk hy=>lev_gt B hk hp fun i hi r v=>by
    rw [hy,hy,bits_put (by omega)]
    by_cases e:i = p
    · subst e
      congr 1
      refine eq_bits (putBit_lt (putBit_lt (bits_lt _ _) hp) hp) (pb r w) fun j _=>?_
      rw [putBit_bit,putBit_bit,putBit_bit]
      by_cases e:j = i
      · rw [if_pos e,if_pos e]
      · rw [if_neg e,if_neg e,if_neg e]
    · rw [← fr i (by omega) _ (pb r w) v]
      congr 1
      refine eq_bits (putBit_lt (putBit_lt (bits_lt _ _) (by omega)) hp) (putBit_lt (pb r w) (by omega)) fun j _=>?_
      rw [putBit_bit,putBit_bit,putBit_bit,putBit_bit]
      by_cases e1:j = p
      · rw [if_pos e1,if_pos e1,if_neg (by omega)]
      · rw [if_neg e1,if_neg e1]
  have ne:k0≠k1:=fun e=>by
    subst e
    obtain ⟨b,hb,hne⟩:=dep
    refine hne ?_
    have a:=y0 (rowN b)
    have c:=y1 (rowN b)
    rw [bits_rowN hb] at a c
    exact a.symm.trans c
  have fin:∀ (R:List Rm) (k:Nat),Bk n R→R[k]? = some (some (p,k0,k1))→(∀ j,j < rs.length→∀ r,yes R j r = yes rs j r)→∀ r,yes R k r = f (bits r n):=fun R k BR e same r=>by
    rw [yes_step BR e,same _ m1,same _ m0,y0,y1]
    have hb:=bits_bit r hp
    cases hr:r p
    · rw [if_neg Bool.false_ne_true]
      rw [hr] at hb
      conv=>rhs; rw [← putBit_self (bits r n) p,hb]
    · rw [if_pos rfl]
      rw [hr] at hb
      conv=>rhs; rw [← putBit_self (bits r n) p,hb]
  have new:some (p,k0,k1) ∉ rs:=fun h=>by
    obtain ⟨j,hj,e⟩:=List.getElem_of_mem h
    have e':rs[j]? = some (some (p,k0,k1)):=by rw [List.getElem?_eq_getElem hj,e]
    by_cases hm:j < m
    · exact old j hm (fin rs j B e' fun _ _ _=>rfl)
    · have:=hl j (by omega) hj
      rw [lev_of B e'] at this
      omega
  have B':=B.snoc hp m0 m1 ne (low k0 false m0 y0) (low k1 true m1 y1) new
  refine ⟨B',fin _ _ B' (by simp) fun j hj r=>?_⟩
  exact yes_snoc B hj r
end Bdd
namespace Bdd
open Sen
structure Tabs (n:Nat) (rs:List Rm) (ts:List Nat):Prop where
  len:ts.length = rs.length
  tab:∀ (j t:Nat),ts[j]? = some t→IsTab n t (fun b=>yes rs j (rowN b))
theorem Tabs.snoc {n:Nat} {rs:List Rm} (B:Bk n rs) {ts:List Nat} {x:Rm} {t:Nat} (h:Tabs n rs ts) (k:IsTab n t (fun b=>yes (rs ++ [x]) rs.length (rowN b))):Tabs n (rs ++ [x]) (ts ++ [t]):=by
  refine ⟨by rw [List.length_append,List.length_append,h.len]; rfl,fun j u e=>?_⟩
  by_cases hj:j < ts.length
  · rw [List.getElem?_append_left hj] at e
    refine tab_congr (h.tab j u e) fun b _=>?_
    rw [yes_snoc B (by rw [← h.len]; exact hj)]
  · have lt:=(List.getElem?_eq_some_iff.mp e).1
    rw [List.length_append,List.length_singleton] at lt
    have ej:j = ts.length:=by omega
    subst ej
    simp at e
    subst e
    rw [h.len]
    exact k
theorem Tabs.find {n:Nat} {rs:List Rm} (B:Bk n rs) {ts:List Nat} (h:Tabs n rs ts) {j t:Nat} {f:Nat→Bool} (e:ts[j]? = some t) (tb:IsTab n t f) (r:Row):yes rs j r = f (bits r n):=by
  have hj:j < rs.length:=by rw [← h.len]; exact (List.getElem?_eq_some_iff.mp e).1
  rw [← yes_bits B hj,← tab_val tb (bits_lt r n),tab_val (h.tab j t e) (bits_lt r n)]
theorem Tabs.same {n:Nat} {rs:List Rm} {ts:List Nat} (h:Tabs n rs ts) {j t:Nat} {f:Nat→Bool} (hj:j < rs.length) (tb:IsTab n t f) (hy:∀ r,yes rs j r = f (bits r n)):ts[j]? = some t:=by
  have lt:j < ts.length:=by rw [h.len]; exact hj
  rw [List.getElem?_eq_getElem lt]
  congr 1
  refine tab_inj (h.tab j _ (List.getElem?_eq_getElem lt)) tb fun b hb=>?_
  show yes rs j (rowN b) = f b
  rw [hy,bits_rowN hb]
end Bdd
namespace Sen
open PySem L2 Bdd
structure Nums (ts:List Nat) (kvs:List (Key × V)):Prop where
  get:∀ (j t:Nat),ts[j]? = some t→valV kvs (Sum.inl (t:Int)) = some (.int (j:Nat))
  non:∀ t:Nat,t ∉ ts→valV kvs (Sum.inl (t:Int)) = none
  len:kvs.length≤ts.length
theorem Nums.snoc {ts:List Nat} {kvs:List (Key × V)} (h:Nums ts kvs) {t:Nat} (ht:t ∉ ts):Nums (ts ++ [t]) (putK kvs (Sum.inl (t:Int)) (.int (ts.length:Nat))):=by
  refine ⟨fun j u e=>?_,fun u hu=>?_,?_⟩
  · rw [valV_put]
    by_cases hj:j < ts.length
    · rw [List.getElem?_append_left hj] at e
      have hm:=List.mem_of_getElem? e
      rw [if_neg fun z=>?_]
      · exact h.get j u e
      · have:(u:Int) = (t:Int):=Sum.inl.inj z
        have:u = t:=by omega
        exact ht (this ▸ hm)
    · have lt:=(List.getElem?_eq_some_iff.mp e).1
      rw [List.length_append,List.length_singleton] at lt
      have ej:j = ts.length:=by omega
      subst ej
      simp at e
      subst e
      rw [if_pos rfl]
  · rw [valV_put,if_neg fun z=>?_]
    · exact h.non u fun z=>hu (List.mem_append_left _ z)
    · have:(u:Int) = (t:Int):=Sum.inl.inj z
      have:u = t:=by omega
      exact hu (this ▸ List.mem_append_right _ List.mem_cons_self)
  · have:=length_putK kvs (Sum.inl (t:Int)) (.int (ts.length:Nat))
    have:=h.len
    rw [List.length_append,List.length_singleton]
    omega
def roomT (n j:Nat):Rm→List V
  | none=>[.int (n:Nat),.int (j:Nat),.int (j:Nat)]
  | some (i,lo,hi)=>[.int (i:Nat),.int (lo:Nat),.int (hi:Nat)]
def roomGo (j:Nat) (x:Rm) (v:Bool):Nat:=match x with
  | none=>j
  | some (_,lo,hi)=>if v then hi else lo
def bookFs (ml rl tl nd:Addr):List (Str × V):=[("marks", .ref ml),("rooms", .ref rl),("tables", .ref tl),("numbers", .ref nd)]
structure Parts (C:Addr) (H:Hp) (b:Addr) (os:List Str) (rs:List Rm) (F:Foot) (dx ml rl tl nd:Addr) (rv:List V) (ts:List Nat) (kvs:List (Key × V)):Prop where
  hb:H b = some (.ins C dx (bookFs ml rl tl nd))
  hm:H ml = some (.lst (os.map V.str))
  hr:H rl = some (.lst rv)
  ht:H tl = some (.lst (ts.map fun t=>V.int (t:Nat)))
  hd:H nd = some (.dK kvs)
  mr:ml≠rl
  mt:ml≠tl
  rt:rl≠tl
  ord:IsOrd os
  bk:Bk os.length rs
  len:rv.length = rs.length
  rm:∀ (j:Nat) x,rs[j]? = some x→∃ p,rv[j]? = some (.ref p)∧H p = some (.tup (roomT os.length j x))
  tabs:Tabs os.length rs ts
  nums:Nums ts kvs
  ft:∀ x,F x↔(x = b∨x = ml∨x = rl∨x = tl∨x = nd)
def BookAt (C:Addr) (H:Hp) (b:Addr) (os:List Str) (rs:List Rm) (F:Foot):Prop:=∃ dx ml rl tl nd rv ts kvs,Parts C H b os rs F dx ml rl tl nd rv ts kvs
theorem Parts.frame {C:Addr} {H H':Hp} {b:Addr} {os:List Str} {rs:List Rm} {F:Foot} {dx ml rl tl nd:Addr} {rv:List V} {ts:List Nat} {kvs:List (Key × V)} (h:Parts C H b os rs F dx ml rl tl nd rv ts kvs)
    (s:∀ x o,H x = some o→F x→H' x = some o) (t:Tups H H'):Parts C H' b os rs F dx ml rl tl nd rv ts kvs :=
  { h with
    hb:=s _ _ h.hb ((h.ft _).mpr (.inl rfl))
    hm:=s _ _ h.hm ((h.ft _).mpr (.inr (.inl rfl)))
    hr:=s _ _ h.hr ((h.ft _).mpr (.inr (.inr (.inl rfl))))
    ht:=s _ _ h.ht ((h.ft _).mpr (.inr (.inr (.inr (.inl rfl)))))
    hd:=s _ _ h.hd ((h.ft _).mpr (.inr (.inr (.inr (.inr rfl)))))
    rm:=fun j x e=>let ⟨p,a,c⟩:=h.rm j x e; ⟨p,a,t _ _ c⟩ }
theorem bookLike (C:Addr):BookLike C (BookAt C) where
  ins:=fun ⟨dx,ml,rl,tl,nd,rv,ts,kvs,h⟩=>⟨dx,_,h.hb,fun m hm=>by
    simp only [bookMeths,List.mem_cons,List.not_mem_nil,or_false] at hm
    rcases hm with z | z | z | z | z | z <;> subst z <;> rfl⟩
  frame:=fun ⟨dx,ml,rl,tl,nd,rv,ts,kvs,h⟩ s t=>⟨dx,ml,rl,tl,nd,rv,ts,kvs,h.frame s t⟩
  there:=fun ⟨dx,ml,rl,tl,nd,rv,ts,kvs,h⟩ hx=>by
    rcases (h.ft _).mp hx with z | z | z | z | z <;> subst z
    · rw [h.hb]; exact fun z=>by cases z
    · rw [h.hm]; exact fun z=>by cases z
    · rw [h.hr]; exact fun z=>by cases z
    · rw [h.ht]; exact fun z=>by cases z
    · rw [h.hd]; exact fun z=>by cases z
  bk:=fun ⟨_,_,_,_,_,_,_,_,h⟩=>h.bk
  ord:=fun ⟨_,_,_,_,_,_,_,_,h⟩=>h.ord
theorem Parts.more {C:Addr} {H H':Hp} {b:Addr} {os:List Str} {rs:List Rm} {F:Foot} {dx ml rl tl nd:Addr} {rv:List V} {ts:List Nat} {kvs:List (Key × V)} (h:Parts C H b os rs F dx ml rl tl nd rv ts kvs)
    {i lo hi t:Nat} {q:Addr} (t':Tups H H') (hb:H' b = H b) (hm:H' ml = H ml) (hr:H' rl = some (.lst (rv ++ [.ref q]))) (ht:H' tl = some (.lst (ts.map (fun t=>V.int (t:Nat)) ++ [.int (t:Nat)])))
    (hd:H' nd = some (.dK (putK kvs (Sum.inl (t:Int)) (.int (rs.length:Nat))))) (hq:H' q = some (.tup [.int (i:Nat),.int (lo:Nat),.int (hi:Nat)])) (B':Bk os.length (rs ++ [some (i,lo,hi)])) (hn:t ∉ ts) (tb:IsTab os.length t (fun b=>yes (rs ++ [some (i,lo,hi)]) rs.length (rowN b))) :
    Parts C H' b os (rs ++ [some (i,lo,hi)]) F dx ml rl tl nd (rv ++ [.ref q]) (ts ++ [t]) (putK kvs (Sum.inl (t:Int)) (.int (rs.length:Nat))) :=
  { hb:=by rw [hb]; exact h.hb
    hm:=by rw [hm]; exact h.hm
    hr:=hr
    ht:=by rw [ht,List.map_append]; rfl
    hd:=hd
    mr:=h.mr
    mt:=h.mt
    rt:=h.rt
    ord:=h.ord
    bk:=B'
    len:=by rw [List.length_append,List.length_append,h.len]; rfl
    rm:=fun j x e=>by
      by_cases hj:j < rs.length
      · rw [List.getElem?_append_left hj] at e
        obtain ⟨p,a,c⟩:=h.rm j x e
        exact ⟨p,by rw [List.getElem?_append_left (by rw [h.len]; exact hj)]; exact a,t' _ _ c⟩
      · have lt:=(List.getElem?_eq_some_iff.mp e).1
        rw [List.length_append,List.length_singleton] at lt
        have ej:j = rs.length:=by omega
        subst ej
        simp at e
        subst e
        exact ⟨q,by rw [← h.len]; simp,hq⟩
    tabs:=h.tabs.snoc h.bk tb
    nums:=by
      have z:=h.nums.snoc hn
      rw [h.tabs.len] at z
      exact z
    ft:=h.ft }
inductive spHeldAt (vs:List V) (H:Hp) (Q:VK) (E9:XK):Prop
  | mk (N p n:Nat) (v:Bool) (f:Nat→Bool) (_:vs = [.int N,.int p,.int (v.toNat:Nat),.int n]) (_:p < n) (_:n≤8) (_:IsTab n N f) (_:∀ R:Nat,IsTab n R (fun b=>f (putBit b p v))→Q (.int R) H):spHeldAt vs H Q E9
inductive spFirst (vs:List V) (H:Hp) (Q:VK) (E9:XK):Prop
  | mk (N n:Nat) (f:Nat→Bool) (_:vs = [.int N,.int n]) (_:n≤8) (_:IsTab n N f) (_:∀ p:Nat,p≤n→(∀ i,i < p→Free n f i)→(p < n→∃ b,b < 2 ^ n∧f (putBit b p false)≠f (putBit b p true))→Q (.int p) H):spFirst vs H Q E9
inductive spMustRoom (C:Addr) (vs:List V) (H:Hp) (Q:VK) (E9:XK):Prop
  | mk (b:Addr) (os:List Str) (rs:List Rm) (F:Foot) (k:Nat) (_:vs = [.ref b,.int k]) (_:BookAt C H b os rs F) (_:k < rs.length) (_:Q .non H):spMustRoom C vs H Q E9
inductive spPlaceOf (C:Addr) (vs:List V) (H:Hp) (Q:VK) (E9:XK):Prop
  | mk (b:Addr) (os:List Str) (rs:List Rm) (F:Foot) (k:Nat) (_:vs = [.ref b,.int k]) (_:BookAt C H b os rs F) (_:k < rs.length) (_:Q (.int (lev os.length rs k:Nat)) H):spPlaceOf C vs H Q E9
inductive spGoing (C:Addr) (vs:List V) (H:Hp) (Q:VK) (E9:XK):Prop
  | mk (b:Addr) (os:List Str) (rs:List Rm) (F:Foot) (k:Nat) (x:Rm) (v:Bool) (_:vs = [.ref b,.int k,.int (v.toNat:Nat)]) (_:BookAt C H b os rs F) (_:rs[k]? = some x) (_:Q (.int (roomGo k x v:Nat)) H):spGoing C vs H Q E9
inductive spTableAt (C:Addr) (vs:List V) (H:Hp) (Q:VK) (E9:XK):Prop
  | mk (b:Addr) (os:List Str) (rs:List Rm) (F:Foot) (k:Nat) (_:vs = [.ref b,.int k]) (_:BookAt C H b os rs F) (_:k < rs.length) (_:∀ t:Nat,IsTab os.length t (fun b=>yes rs k (rowN b))→Q (.int t) H):spTableAt C vs H Q E9
inductive spHangs (vs:List V) (H:Hp) (Q:VK) (E9:XK):Prop
  | mk (N p n:Nat) (f:Nat→Bool) (_:vs = [.int N,.int p,.int n]) (_:p < n) (_:n≤8) (_:IsTab n N f) (_:∀ b:Bool,(b = false→Free n f p)→(b = true→∃ c,c < 2 ^ n∧f (putBit c p false)≠f (putBit c p true))→Q (.bl b) H):spHangs vs H Q E9
inductive spWithout (vs:List V) (H:Hp) (Q:VK) (E9:XK):Prop
  | mk (N M n:Nat) (f g:Nat→Bool) (_:vs = [.int N,.int M]) (_:IsTab n N f) (_:IsTab n M g) (_:∀ R:Nat,IsTab n R (fun b=>f b && !g b)→Q (.int R) H):spWithout vs H Q E9
inductive spChosen (vs:List V) (H:Hp) (Q:VK) (E9:XK):Prop
  | mk (W L M n:Nat) (f g h:Nat→Bool) (_:vs = [.int W,.int L,.int M]) (_:IsTab n W f) (_:IsTab n L g) (_:IsTab n M h) (_:∀ R:Nat,IsTab n R (fun b=>if f b then h b else g b)→Q (.int R) H):spChosen vs H Q E9
end Sen
namespace Bdd
theorem put_self (r:Row) (p:Nat):put r p (r p) = r:=by
  funext j
  unfold put
  by_cases e:j = p
  · rw [if_pos e,e]
  · rw [if_neg e]
end Bdd
namespace Sen
open PySem L2 Bdd
theorem yes_at {n:Nat} {rs:List Rm} (B:Bk n rs) {k:Nat} {f:Row→Bool} (h:Means rs k f) (r:Row):yes rs k (rowN (bits r n)) = f r:=(yes_bits B h.1 r).trans (h.2 r)
end Sen
namespace Bdd
open Sen
def allR:Nat→List (List Bool)
  | 0=>[[]]
  | n + 1=>(allR n).flatMap fun r=>[r ++ [false],r ++ [true]]
def rowL (r:List Bool):Row:=fun i=>r.getD i false
end Bdd
namespace L2
open PySem PySem.Spec PyProof.Rows
section
variable {X:Cx}
def rAddL (K:PySem.W.Frag):R2:=fun x y H Q=>∃ p q xs ys,x = .ref p∧y = .ref q∧SqL K H p xs∧SqL K H q ys∧xs.length + ys.length≤sizeLine∧∀ l,H l = none→Q (.ref l) (upd H l (.lst (xs ++ ys)))
theorem op_addL:OpR X (binaryOp .Add) (rAddL X.K):=by
  intro pins s σ H x y v u Q I rx ry h
  obtain ⟨p,q,xs,ys,rfl,rfl,hp,hq,hz,h⟩:=h
  cases rx
  cases ry
  obtain ⟨its1,rv1,pl1,hz1⟩:=I.list hp
  obtain ⟨its2,rv2,pl2,hz2⟩:=I.list hq
  obtain ⟨⟨cls,dd,data,sl⟩,ho,hc,n,hd⟩:=id pl1.isList
  obtain ⟨⟨cls2,dd2,data2,sl2⟩,ho2,hc2,n2,hd2⟩:=id pl2.isList
  simp only at hc hd hc2 hd2
  subst hc hd hc2 hd2
  have l1:=rv1.length
  have l2:=rv2.length
  have e:its1.toArray ++ its2.toArray = (its1 ++ its2).toArray:=by simp
  refine concat_meets ⟨_,ho,rfl⟩ ⟨_,ho2,rfl⟩ noFill_list_add seq_list_add PySem.F.slot_list_add PySem.F.entry_list_add (PySem.F.args_list_add_2 _ _) (list_addW p q its1.toArray its2.toArray n n2 dd dd2 sl sl2 (by simp; omega)) ⟨ho,ho2,?_⟩
  rw [e]
  refine ⟨.ref s.heap.objs.size,_,I.laid (t':=s.toks) (o:=.lst (xs ++ ys)) (fun b o e=>Heap.get?_push_of_some _ e) (Nat.le_refl _) ?_,rfl,h _ (I.hok.fresh (Nat.le_refl _))⟩
  exact ⟨by rw [List.length_append]; exact hz,its1 ++ its2,0,rv1.append rv2,Heap.get?_push_size _ rfl⟩
end
end L2
namespace L2
open PySem PySem.Spec PyProof.Rows
section
variable {X:Cx} {K:PySem.W.Frag}
theorem fold_one {α:Type} (u:α):∀ (n:Nat) (acc:Array α),List.foldl (fun x1 x2=>x1 ++ x2) acc (List.replicate n #[u]) = acc ++ (List.replicate n u).toArray
  | 0,acc=>by simp
  | n + 1,acc=>by
    rw [List.replicate_succ,List.foldl_cons,fold_one u n,List.replicate_succ]
    apply Array.ext'
    simp
theorem mul_listG {prog:Program} {w:World} {A:Around} {E:Value→Shared→Prop} {s:Shared} {l:Addr} {items:Array Value} {k:Nat} {x:Int} {u:Tok} {Q:Value→Shared→Prop}
    (hl:s.heap.get? l = some { cls:=.type "list", dict:=none,data:=.seq items k,slots:=#[] })
    (hlo:-(2 ^ 63:Int)≤x) (hhi:x < 2 ^ 63) (hsz:items.size * x.toNat≤2 ^ 24)
    (h:Q (.ref s.heap.objs.size) { s with heap:=s.heap.push { cls:=.type "list", data:=.seq (List.foldl (fun x1 x2=>x1 ++ x2) #[] (List.replicate (if items.isEmpty = true then 0 else x.toNat) items)) } }) :
    wpAny (model prog w) A (binaryOp .Mult (.ref l) (.int x u)) Q E s :=
  wpAny_binaryOp_repeat_ref (T := "list") (U := "int") (by decide) ⟨_,hl,rfl⟩ (fun s'=>typeIs_int s' x u) noFill_list_mul PySem.F.fills_int_mul PySem.F.slot_int_rmul repeat_list PySem.F.slot_int_index.lookup
    (call_meets PySem.F.slot_int_rmul (typeIs_int s x u) PySem.F.entry_int_rmul (PySem.F.args_int_rmul_2 _ _) (int___rmul___int_list x u l items k)
      ⟨hl,rfl,⟨_,hl,rfl⟩,call_meets PySem.F.slot_list_mul ⟨_,hl,rfl⟩ PySem.F.entry_list_mul (PySem.F.args_list_mul_2 _ _)
        (AutoListH.list___mul___list_int_3 l items k x u (by simp [Builtin.List.listFitsIndex]; omega) (by omega) (by simp [Builtin.List.listTooLong,sizeLine]; omega))
        ⟨hl,h⟩⟩)
def rMulL:R2:=fun x y H Q=>∃ (p:Addr) (v:V) (n:Nat),x = .ref p∧y = .int n∧H p = some (.lst [v])∧n≤1000∧∀ l,H l = none→Q (.ref l) (upd H l (.lst (List.replicate n v)))
theorem op_mulL:OpR X (binaryOp .Mult) rMulL:=by
  intro pins s σ H x y vx vy Q I rx ry h
  obtain ⟨p,v,n,rfl,rfl,hp,hn,q⟩:=h
  cases rx
  obtain ⟨t,rfl⟩:=ry
  obtain ⟨z,its,k,r,hl,e⟩:=I.lstM hp
  obtain ⟨u,rfl,ru⟩:=vals1 r
  have hsz:[u].toArray.size = 1:=rfl
  refine mul_listG e (by omega) (by omega) (by rw [hsz]; omega) ?_
  have e2:List.foldl (fun x1 x2=>x1 ++ x2) #[] (List.replicate (if [u].toArray.isEmpty = true then 0 else (n:Int).toNat) [u].toArray) = (List.replicate n u).toArray:=by
    have e3:(if [u].toArray.isEmpty = true then 0 else (n:Int).toNat) = n:=by simp
    rw [e3]
    have:=fold_one u n #[]
    simpa using this
  rw [e2]
  refine ⟨.ref s.heap.objs.size,_,I.laid (t':=s.toks) (o:=.lst (List.replicate n v)) (fun b o e=>Heap.get?_push_of_some _ e) (Nat.le_refl _) ?_,rfl,q _ (I.hok.fresh (Nat.le_refl _))⟩
  refine ⟨by rw [List.length_replicate]; exact Nat.le_of_lt (small1000 hn),List.replicate n u,0,?_,Heap.get?_push_size _ rfl⟩
  clear e2 q hn
  induction n with
  | zero=>exact .nil
  | succ n ih=>exact .cons ru ih
end
end L2
namespace Sen
open PySem L2 Bdd
def cellF (ns:List Int) (i:Nat):Int:=(ns[i]?).getD 0
inductive spCellF (K:PySem.W.Frag) (vs:List V) (H:Hp) (Q:VK) (E9:XK):Prop
  | mk (l:Addr) (ns:List Int) (i:Nat) (_:vs = [.ref l,.int i]) (_:SqL K H l (ns.map V.int)) (_:Q (.int (cellF ns i)) H):spCellF K vs H Q E9
end Sen
namespace L2
theorem tyes {σ:St} {H:Hp} {Q:Bool→Hp→Prop} (h:Q true H):tYes σ H Q:=h
end L2
namespace Sen
open PySem L2 Bdd
theorem Sn.count_depth:∀ s:Sn,s.count + 1≤2 ^ s.depth:=by
  have key:∀ (d:Nat) (s:Sn),s.depth≤d→s.count + 1≤2 ^ d:=by
    intro d
    induction d with
    | zero=>intro s h; have:=Sn.depth_pos s; omega
    | succ d ih =>
      intro s h
      have hp:=Sn.count_parts s
      have hl:=Sn.parts_le s
      have hd:=Sn.depth_parts s
      have hc:∀ t∈s.parts,t.count + 1≤2 ^ d:=fun t ht=>ih t (by have:=hd t ht; omega)
      have p1:1≤2 ^ d:=Nat.one_le_two_pow
      rw [Nat.pow_succ,hp]
      match hs:s.parts,hl with
      | [],_=>simp; omega
      | [a],_ =>
        have:=hc a (by rw [hs]; simp)
        simp; omega
      | [a,b],_ =>
        have h1:=hc a (by rw [hs]; simp)
        have h2:=hc b (by rw [hs]; simp)
        simp; omega
      | a :: b :: c :: r,h=>simp at h
  exact fun s=>key _ s (Nat.le_refl _)
end Sen
namespace L2
open PySem
theorem bt_min:bootBuiltins "min" = some (.builtin "min"):=by decide +kernel
end L2
namespace PySem.SeqAt
open AutoSeq1 (wpAny_loadPart')
open MeetsSeq MeetsSeq2 MeetsSeq3 SeqRoads2
def LtAt (A:Around) (s:Shared) (y x:Value) (b:Bool):Prop :=
  ∀ (prog:Program) (w:World) (E:Value→Shared→Prop) (Q:Value→Shared→Prop),Q (.bool b) s→wpAny (model prog w) A (richCompare .Lt y x) Q E s
def lexB (e f:Nat→Bool) (m n:Nat):Nat→Nat→Bool
  | 0,_=>decide (m < n)
  | k + 1,i=>if e i then lexB e f m n k (i + 1) else f i
theorem lt_loopAt (l b:Addr) (items items2:Array Value) (n n2:Nat) (dd dd2:Option Addr) (sl sl2:Array (Option Value)) (e f:Nat→Bool) (k:Nat) :
    ∀ i:Nat,min items.size items2.size - i = k→Meets (Builtin.«list.__eq__.loop» ⟨[.ref l,.ref b,rawInt i,rawInt 0],[]⟩)
      (fun A R s=>s.heap.get? l = some { cls:=.type "list", dict:=dd,data:=.seq items n,slots:=sl }∧s.heap.get? b = some { cls:=.type "list", dict:=dd2,data:=.seq items2 n2,slots:=sl2 } ∧
        (∀ j (h1:j < items.size) (h2:j < items2.size),EqAt A.in1 s items[j] items2[j] (e j))∧(∀ j (h1:j < items.size) (h2:j < items2.size),e j = false→LtAt A.in1 s items[j] items2[j] (f j)) ∧
        R (.ok (.ret (.bool (lexB e f items.size items2.size k i)))) s):=by
  induction k with
  | zero =>
    intro i hk prog w A R s h
    obtain ⟨hp,g,d,tk,os⟩:=s; obtain ⟨hl,hb,he,hf,h⟩:=h
    wp_walk using wpAny_loadPart' hl,wpAny_loadPart' hb
    by_cases h1:i < items.size
    · have hi1:items[((i:Nat):Int).toNat]? = some items[i]:=by simp [h1]
      have hi2:items2[((i:Nat):Int).toNat]? = none:=by simp; omega
      rw [hi1,hi2]
      wp_walk using wpAny_loadPart' hl,wpAny_loadPart' hb
      exact h
    · have hi1:items[((i:Nat):Int).toNat]? = none:=by simp; omega
      rw [hi1]
      wp_walk using wpAny_loadPart' hl,wpAny_loadPart' hb
      exact h
  | succ k ih =>
    intro i hk prog w A R s h
    obtain ⟨hp,g,d,tk,os⟩:=s; obtain ⟨hl,hb,he,hf,h⟩:=h
    wp_walk using wpAny_loadPart' hl,wpAny_loadPart' hb
    have hlt:i < items.size:=by omega
    have hlt2:i < items2.size:=by omega
    have hi1:items[((i:Nat):Int).toNat]? = some items[i]:=by simp [hlt]
    have hi2:items2[((i:Nat):Int).toNat]? = some items2[i]:=by simp [hlt2]
    have hc:((i:Int) + 1) = ((i + 1:Nat):Int):=by push_cast; rfl
    rw [lexB] at h
    rw [hi1,hi2]
    refine wpAny_bind (he i hlt hlt2 prog w _ _ ?_)
    cases hb':e i with
    | true =>
      rw [hb',if_pos rfl] at h
      wp_walk
      rw [hc]
      exact ⟨plainId_quiet plain_eq_loop _,codeAny_builtin entry_eq_loop (by
        rw [Around.under_plainId plain_eq_loop _]
        exact ih (i + 1) (by omega) prog w A R _ ⟨hl,hb,he,hf,h⟩)⟩
    | false =>
      rw [hb',if_neg Bool.false_ne_true] at h
      wp_walk using wpAny_loadPart' hl,wpAny_loadPart' hb
      rw [hi1,hi2]
      refine wpAny_bind (hf i hlt hlt2 hb' prog w _ _ ?_)
      wp_walk
      exact h
theorem list_ltAt (l b:Addr) (items items2:Array Value) (n n2:Nat) (dd dd2:Option Addr) (sl sl2:Array (Option Value)) (e f:Nat→Bool) :
    Meets (Builtin.«list.__lt__» ⟨[.ref l,.ref b],[]⟩)
      (fun A R s=>s.heap.get? l = some { cls:=.type "list", dict:=dd,data:=.seq items n,slots:=sl }∧s.heap.get? b = some { cls:=.type "list", dict:=dd2,data:=.seq items2 n2,slots:=sl2 } ∧
        (∀ j (h1:j < items.size) (h2:j < items2.size),EqAt A.in1 s items[j] items2[j] (e j))∧(∀ j (h1:j < items.size) (h2:j < items2.size),e j = false→LtAt A.in1 s items[j] items2[j] (f j)) ∧
        R (.ok (.ret (.bool (lexB e f items.size items2.size (min items.size items2.size) 0)))) s):=by
  intro prog w A R s h
  obtain ⟨hp,g,d,tk,os⟩:=s; obtain ⟨hl,hb,he,hf,h⟩:=h
  have f3:=AutoSeq1.sub_list_list
  wp_walk using wpAny_loadPart' hl,wpAny_loadPart' hb
  exact ⟨plainId_quiet plain_eq_loop _,codeAny_builtin entry_eq_loop (by
    rw [Around.under_plainId plain_eq_loop _]
    exact lt_loopAt l b items items2 n n2 dd dd2 sl sl2 e f _ 0 rfl prog w A R _ ⟨hl,hb,he,hf,h⟩)⟩
end PySem.SeqAt
namespace L2
open PySem PySem.Spec PyProof.Rows
theorem strsAre_of:∀ {ss:List Str} {its:List Value},Vals (ss.map V.str) its→StrsAre its ss
  | [],_,.nil=>.nil
  | x :: ss,_,.cons r t=>by
    obtain ⟨k,rfl⟩:=r
    exact .cons x k (strsAre_of t)
theorem vals_strs:∀ {ss:List Str} {its:List Value},StrsAre its ss→Vals (ss.map V.str) its
  | _,_,.nil=>.nil
  | _,_,.cons x t h=>.cons ⟨t,rfl⟩ (vals_strs h)
section
variable {X:Cx}
theorem call_sorted_strs {K:PySem.W.Frag} (hK:X.K = K):CallR X (.builtin "sorted") (fun xs H Q=>∃ (p:Addr) (ss:List Str),xs = [.ref p]∧SqL K H p (ss.map V.str)∧ss.length < 64∧∀ (l:Addr) (ms:List Str),H l = none→ms.Perm ss→sortedS ms = true→Q (.ref l) (upd H l (.lst (ms.map V.str)))):=by
  subst hK
  intro pins s σ H xs us Q I r h
  obtain ⟨p,ss,rfl,hq,h64,q⟩:=h
  obtain ⟨u,rfl,rx⟩:=vals1 r
  cases rx
  obtain ⟨its,r',pl,hz⟩:=I.list hq
  have hi:StrsAre its ss:=strsAre_of r'
  have hl:=r'.length
  rw [List.length_map] at hl
  refine sorted_strs pl.isList hi (by omega) fun out ms a1 a2 a3=>?_
  obtain ⟨e,he⟩:=sortedAll_at s.heap its out
  have hf:H (s.heap.objs.size + 1) = none:=I.hok.fresh (Nat.le_succ _)
  have hlm:=a2.length_eq
  have s64:=small1000 (n:=ms.length) (by omega)
  refine ⟨.ref (s.heap.objs.size + 1),_,I.laid (t':=s.toks) (o:=.lst (ms.map V.str)) (fun b o e=>sortedAll_old e) (Nat.le_succ _) ?_,rfl,q _ ms hf a2 a3⟩
  refine ⟨by rw [List.length_map]; exact Nat.le_of_lt s64,out.toList,e,vals_strs a1,?_⟩
  simpa using he
def tLV (to:TE):TE:=fun σ H Q=>to σ H fun x H1=>∃ (d:Addr) (kvs:List (Key × V)),x = .ref d∧H1 d = some (.dK kvs)∧∀ l,H1 l = none→Q (.ref l) (upd H1 l (.lst (kvs.map (·.2))))
theorem pe_listVals {o:Expr} {to:TE} {p apos cpos pos:Pos} (hc:X.calm = true) (hg:Gl X "list") (hm:X.mg "list" = none) (ho:PE X o to)
    (hbase:attributeBase o "values" X.env (eval o X.env) = eval o X.env:=by rfl) (hline:(apos.endLine == cpos.line) = true:=by rfl)
    (hs2:starEach [.Call (.Attribute o "values" apos) [] [] cpos] X.env = [(false,eval (.Call (.Attribute o "values" apos) [] [] cpos) X.env)]:=by rfl) :
    PE X (.Call (.Name "list" p) [.Call (.Attribute o "values" apos) [] [] cpos] [] pos) (tLV to):=by
  intro pins s σ H Q I h
  refine wpAny_Call_Name_kw (ld_blt I hg hm bt_list ?_ (by decide) (by decide))
  refine PyProof.Rows.callWith_type1 ?_ hs2 rfl
  rw [hs2]
  show wpAny _ _ (spliced ((false,eval (.Call (.Attribute o "values" apos) [] [] cpos) X.env) :: [])) _ _ s
  refine Calls.spliced_cons ?_
  refine wpAny_Call_method0_late hbase hline (thn (ho pins s σ H _ I h) fun v s1 ⟨x,H1,I1,r1,q1⟩=>?_)
  obtain ⟨d,kvs,rfl,hd,q⟩:=q1
  obtain ⟨h1,h2⟩:=tyV_is (T := "dict") I1 r1 (.inr (.inr (.inl ⟨rfl,.inl ⟨kvs,hd⟩⟩)))
  cases r1
  obtain ⟨hz,lo,vs,rv,hD⟩:=(show kvs.length≤sizeLine∧(d == sysModules) = false∧∃ vs,KV kvs vs∧s1.heap.DictOf (mixKind X.prog X.w) d vs from I1.hok d _ hd)
  obtain ⟨ep,hat⟩:=hD.dictAt
  have hl:kvs.length = vs.length:=Paired.length rv
  refine ⟨"dict", "dict.values", PySem.F.plainAttrs_dict,PySem.F.slot_dict_values,PySem.F.type_dict_values,h1,h2,Calls.callWith_builtin rfl (PySem.evalArgs_none ?_)⟩
  refine call_meetsIn PySem.F.slot_dict_values hD.typeIs PySem.F.entry_dict_values (PySem.F.args_dict_values_1 _) (meets_dict_values (mixKind X.prog X.w) d lo) ⟨⟨vs,hD⟩,Calls.spliced_nil ?_⟩
  have I2:=I1.kept (t':=s1.toks) (h':=s1.heap.push { cls:=.type "dict_values", data:=.fields #[.ref d] }) fun b o e=>Heap.get?_push_of_some _ e
  obtain ⟨hz2,lo2,vs2,rv2,hD2⟩:=(show kvs.length≤sizeLine∧(d == sysModules) = false∧∃ vs,KV kvs vs∧(s1.heap.push { cls:=.type "dict_values", data:=.fields #[.ref d] }).DictOf (mixKind X.prog X.w) d vs from I2.hok d _ hd)
  obtain ⟨ep2,hat2⟩:=hD2.dictAt
  have hl2:kvs.length = vs2.length:=Paired.length rv2
  refine PySem.W.kdl_call (PySem.W.kdl_values (knd:=mixKind X.prog X.w) (r:=s1.heap.objs.size) (d:=d) (kvs:=vs2) (ep:=ep2)) (I1.ok.hd hc) ⟨⟨_,Heap.get?_push_size _ rfl,rfl,rfl⟩,hat2⟩ (by omega) fun h' tk acc c hk hS hacc=>?_
  refine ⟨.ref _,_,I2.laid (t':=tk) (o:=.lst (kvs.map (·.2))) hk (Nat.le_refl _) ?_,rfl,q _ (I2.hok.fresh (Nat.le_refl _))⟩
  refine ⟨by rw [List.length_map]; exact hz,acc.toList,c,?_,by simpa using hS⟩
  refine vals_get (by rw [List.length_map]; have:=hacc.1; simp; omega) fun j v hv=>?_
  obtain ⟨k,hx⟩:=hacc.2 j v (by rw [← Array.getElem?_toList]; exact hv)
  obtain ⟨y,hy,e1,e2⟩:=pd_ta rv2 hx
  exact ⟨y.2,by rw [List.getElem?_map,hy]; rfl,e2⟩
end
end L2
namespace Sen
open PySem L2 Bdd PyProof.Rows
theorem lett_lt:∀ x∈letts,∀ y∈letts,Spec.ltCps x.cps.toList y.cps.toList = decide (ix letts x < ix letts y):=by decide +kernel
theorem lett_inj:∀ x∈letts,∀ y∈letts,ix letts x = ix letts y→x = y:=by decide +kernel
theorem rising_le:∀ {l:List Str} {p:Str},p∈letts→(∀ x∈l,x∈letts)→risingS p l = true→∀ x∈l,ix letts p≤ix letts x
  | [],p,_,_,_,x,hx=>by cases hx
  | y :: l,p,hp,hl,h,x,hx=>by
    have hy:=hl y List.mem_cons_self
    have h':(!Spec.ltCps y.cps.toList p.cps.toList && risingS y l) = true:=h
    rw [Bool.and_eq_true,lett_lt y hy p hp] at h'
    have h1:ix letts p≤ix letts y:=by
      have:=h'.1
      simp at this
      omega
    rcases List.mem_cons.mp hx with e | hx
    · rw [e]; exact h1
    · have:=rising_le hy (fun z hz=>hl z (List.mem_cons_of_mem _ hz)) h'.2 x hx
      omega
theorem sorted_tail {x:Str} {l:List Str} (h:sortedS (x :: l) = true):sortedS l = true:=by
  cases l with
  | nil=>rfl
  | cons y l =>
    have h':(!Spec.ltCps y.cps.toList x.cps.toList && risingS y l) = true:=h
    exact (Bool.and_eq_true _ _ ▸ h').2
theorem sorted_eq:∀ {a b:List Str},(∀ x∈a,x∈letts)→a.Perm b→sortedS a = true→sortedS b = true→a = b
  | [],b,_,h,_,_=>(List.nil_perm.mp h).symm
  | x :: a,[],_,h,_,_=>by cases (List.perm_nil.mp h)
  | x :: a,y :: b,hl,h,s1,s2=>by
    have hlb:∀ z∈y :: b,z∈letts:=fun z hz=>hl z (h.mem_iff.mpr hz)
    have hx:=hl x List.mem_cons_self
    have hy:=hlb y List.mem_cons_self
    have le1:∀ z∈x :: a,ix letts x≤ix letts z:=fun z hz=>by
      rcases List.mem_cons.mp hz with e | hz
      · rw [e]; exact Nat.le_refl _
      · exact rising_le hx (fun z hz=>hl z (List.mem_cons_of_mem _ hz)) s1 z hz
    have le2:∀ z∈y :: b,ix letts y≤ix letts z:=fun z hz=>by
      rcases List.mem_cons.mp hz with e | hz
      · rw [e]; exact Nat.le_refl _
      · exact rising_le hy (fun z hz=>hlb z (List.mem_cons_of_mem _ hz)) s2 z hz
    have e:x = y:=lett_inj x hx y hy (Nat.le_antisymm (le1 y (h.mem_iff.mpr List.mem_cons_self)) (le2 x (h.mem_iff.mp List.mem_cons_self)))
    subst e
    rw [sorted_eq (fun z hz=>hl z (List.mem_cons_of_mem _ hz)) h.cons_inv (sorted_tail s1) (sorted_tail s2)]
def trn (os ps:List Str) (r:Row):Row:=fun i=>r (ix ps (os.getD i ⟨#[]⟩))
structure Marks (os ps:List Str):Prop where
  mem:∀ x,x∈os↔x∈ps
  len:os.length = ps.length
section
variable (C:Addr) (K:PySem.W.Frag)
def Rises (rs:List Rm) (ks:List Nat):Prop:=ks.Nodup∧∀ (i k:Nat),ks[i]? = some k→k < rs.length∧∀ p lo hi,rs[k]? = some (some (p,lo,hi))→lo∈ks.take i∧hi∈ks.take i
end
theorem bk_none {n:Nat} {rs:List Rm} (B:Bk n rs) {k:Nat} (h:rs[k]? = some none):k = 0∨k = 1:=by
  have lt:=(List.getElem?_eq_some_iff.mp h).1
  by_cases k2:2≤k
  · obtain ⟨i,lo,hi,e,_⟩:=B.rm k k2 lt
    rw [e] at h
    cases h
  · omega
structure KsJs (ks js:List Nat) (kvs:List (Key × V)):Prop where
  eq:kvs = (ks.zip js).map fun e=>((Sum.inl (e.1:Int):Key),V.int (e.2:Nat))
  nd:ks.Nodup
  ln:kvs.length = ks.length
theorem KsJs.nil:KsJs [] [] []:=⟨rfl,List.nodup_nil,rfl⟩
theorem KsJs.len {ks js:List Nat} {kvs:List (Key × V)} (h:KsJs ks js kvs):kvs.length = ks.length:=h.ln
theorem KsJs.vals {ks js:List Nat} {kvs:List (Key × V)} (h:KsJs ks js kvs) (hl:js.length = ks.length):kvs.map (·.2) = js.map fun j=>V.int (j:Nat):=by
  rw [h.eq,List.map_map]
  have e:(ks.zip js).map (·.2) = js:=List.map_snd_zip (by omega)
  conv=>rhs; rw [← e]
  rw [List.map_map]
  rfl
theorem valV_zip:∀ {ks js:List Nat} {m k j:Nat},ks.Nodup→ks[m]? = some k→js[m]? = some j→valV ((ks.zip js).map fun e=>((Sum.inl (e.1:Int):Key),V.int (e.2:Nat))) (Sum.inl (k:Int)) = some (.int (j:Nat))
  | [],_,m,_,_,_,h,_=>by cases h
  | _ :: _,[],m,_,_,_,_,h=>by cases h
  | k0 :: ks,j0 :: js,0,k,j,_,hk,hj=>by
    cases hk
    cases hj
    rw [List.zip_cons_cons,List.map_cons]
    exact valV_pos rfl
  | k0 :: ks,j0 :: js,m + 1,k,j,nd,hk,hj=>by
    rw [List.nodup_cons] at nd
    have hk':ks[m]? = some k:=hk
    rw [List.zip_cons_cons,List.map_cons,valV_neg]
    · exact valV_zip nd.2 hk' hj
    · intro e
      have e':(k0:Int) = (k:Int):=Sum.inl.inj e
      have:k0 = k:=by omega
      exact nd.1 (this ▸ List.mem_of_getElem? hk')
theorem KsJs.at {ks js:List Nat} {kvs:List (Key × V)} (h:KsJs ks js kvs) (hl:js.length = ks.length) {k:Nat} (hk:k∈ks):∃ m j:Nat,ks[m]? = some k∧js[m]? = some j∧valV kvs (Sum.inl (k:Int)) = some (.int (j:Nat)):=by
  obtain ⟨m,hm,e⟩:=List.getElem_of_mem hk
  have e1:ks[m]? = some k:=by rw [List.getElem?_eq_getElem hm,e]
  have e2:js[m]? = some (js[m]'(by omega)):=List.getElem?_eq_getElem (by omega)
  exact ⟨m,_,e1,e2,by rw [h.eq]; exact valV_zip h.nd e1 e2⟩
theorem putK_new {kvs:List (Key × V)} {k:Key} {v:V} (h:∀ e∈kvs,e.1≠k):putK kvs k v = kvs ++ [(k,v)]:=by
  unfold putK
  rw [if_neg]
  rw [List.any_eq_true]
  rintro ⟨e,he,z⟩
  exact h e he (of_decide_eq_true z)
theorem KsJs.snoc {ks js:List Nat} {kvs:List (Key × V)} (h:KsJs ks js kvs) (hl:js.length = ks.length) {p j:Nat} (np:p ∉ ks):KsJs (ks ++ [p]) (js ++ [j]) (putK kvs (Sum.inl (p:Int)) (.int (j:Nat))):=by
  have e:putK kvs (Sum.inl (p:Int)) (.int (j:Nat)) = kvs ++ [((Sum.inl (p:Int):Key),V.int (j:Nat))]:=by
    refine putK_new fun e he z=>?_
    rw [h.eq] at he
    obtain ⟨q,hq,rfl⟩:=List.mem_map.mp he
    have z':(q.1:Int) = (p:Int):=Sum.inl.inj z
    have:q.1 = p:=by omega
    exact np (this ▸ (List.of_mem_zip (a:=q.1) (b:=q.2) hq).1)
  refine ⟨?_,?_,?_⟩
  · rw [e,List.zip_append hl.symm,List.map_append,← h.eq]
    rfl
  · rw [List.nodup_append]
    exact ⟨h.nd,List.nodup_cons.mpr ⟨fun z=>(List.not_mem_nil z).elim,List.nodup_nil⟩,fun a ha b hb z=>by
      have:b = p:=by simpa using hb
      subst this
      exact np (z ▸ ha)⟩
  · rw [e,List.length_append,List.length_append,h.ln]
    rfl
theorem not_mem_take {ks:List Nat} {i p:Nat} (nd:ks.Nodup) (h:ks[i]? = some p):p ∉ ks.take i:=fun hm=>by
  obtain ⟨m,hm1,e⟩:=List.getElem_of_mem hm
  rw [List.length_take] at hm1
  rw [List.getElem_take] at e
  obtain ⟨lt,e2⟩:=List.getElem?_eq_some_iff.mp h
  have:=(List.getElem_inj nd).mp (e.trans e2.symm)
  omega
end Sen
namespace Bdd
open PySem Sen
def upR (n:Nat) (x:Rm):Bool:=match x with | some (i,_,_)=>decide (i + 2 < n) | none=>false
def hiN (n:Nat) (rs:List Rm):Nat:=(rs.filter (upR n)).length
theorem hi_snoc {n:Nat} {rs:List Rm} {p lo hi:Nat}:hiN n (rs ++ [some (p,lo,hi)]) = hiN n rs + if p + 2 < n then 1 else 0:=by
  unfold hiN
  rw [List.filter_append,List.length_append]
  congr 1
  by_cases h:p + 2 < n
  · rw [if_pos h,List.filter_cons_of_pos (show upR n (some (p,lo,hi)) = true from decide_eq_true h)]
    rfl
  · rw [if_neg h,List.filter_cons_of_neg (show ¬ upR n (some (p,lo,hi)) = true from fun z=>h (of_decide_eq_true z))]
    rfl
def sig4 (n:Nat) (rs:List Rm) (k:Nat):Bool × Bool × Bool × Bool :=
  (yes rs k (fun i=>if i + 1 = n then false else false),yes rs k (fun i=>if i + 1 = n then true else false),yes rs k (fun i=>if i + 1 = n then false else true),yes rs k (fun i=>if i + 1 = n then true else true))
theorem sig_inj {n:Nat} {rs:List Rm} (B:Bk n rs) {j k:Nat} (hj:j < rs.length) (hk:k < rs.length) (lj:n≤lev n rs j + 2) (lk:n≤lev n rs k + 2) (e:sig4 n rs j = sig4 n rs k):j = k:=by
  unfold sig4 at e
  rw [Prod.mk.injEq,Prod.mk.injEq,Prod.mk.injEq] at e
  obtain ⟨e0,e1,e2,e3⟩:=e
  have key:∀ {m:Nat},m < rs.length→n≤lev n rs m + 2→∀ r:Row,yes rs m r = yes rs m (fun i=>if i + 1 = n then r (n - 1) else r (n - 2)):=fun {m} hm lm r=>by
    refine yes_congr B m m (Nat.le_refl _) hm fun i h1 h2=>?_
    by_cases h:i + 1 = n
    · rw [if_pos h,show i = n - 1 by omega]
    · rw [if_neg h,show i = n - 2 by omega]
  refine one_room B (max j k) j k ⟨Nat.le_max_left _ _,Nat.le_max_right _ _⟩ hj hk fun r=>?_
  rw [key hj lj r,key hk lk r]
  cases r (n - 1) <;> cases r (n - 2)
  · exact e0
  · exact e2
  · exact e1
  · exact e3
def all4:List (Bool × Bool × Bool × Bool):=[false,true].flatMap fun a=>[false,true].flatMap fun b=>[false,true].flatMap fun c=>[false,true].map fun d=>(a,b,c,d)
theorem all4_mem:∀ x:Bool × Bool × Bool × Bool,x∈all4:=by
  rintro ⟨a,b,c,d⟩
  cases a <;> cases b <;> cases c <;> cases d <;> decide
theorem filt_idx {α:Type} (f:α→Bool) (d:α):∀ l:List α,(l.filter f).length = ((List.range l.length).filter fun i=>f (l.getD i d)).length
  | []=>rfl
  | a :: l=>by
    have ih:=filt_idx f d l
    rw [List.length_cons,List.range_succ_eq_map,List.filter_cons,List.filter_cons,List.filter_map,]
    have e:((List.range l.length).filter ((fun i=>f ((a :: l).getD i d)) ∘ Nat.succ)) = ((List.range l.length).filter fun i=>f (l.getD i d)):=rfl
    rw [e]
    show (if f a = true then a :: l.filter f else l.filter f).length = (if f a = true then 0 :: _ else _).length
    cases f a
    · rw [if_neg Bool.false_ne_true,if_neg Bool.false_ne_true,List.length_map]
      exact ih
    · rw [if_pos rfl,if_pos rfl,List.length_cons,List.length_cons,List.length_map,ih]
theorem filt_both {α:Type} (f:α→Bool):∀ l:List α,l.length = (l.filter f).length + (l.filter fun a=>!f a).length
  | []=>rfl
  | a :: l=>by
    have ih:=filt_both f l
    cases h:f a
    · rw [List.filter_cons_of_neg (by rw [h]; exact Bool.false_ne_true),List.filter_cons_of_pos (p:=fun a=>!f a) (by rw [h]; rfl),List.length_cons,List.length_cons]
      omega
    · rw [List.filter_cons_of_pos h,List.filter_cons_of_neg (p:=fun a=>!f a) (by rw [h]; exact Bool.false_ne_true),List.length_cons,List.length_cons]
      omega
theorem hi_len {n:Nat} {rs:List Rm} (B:Bk n rs):rs.length≤hiN n rs + 16:=by
  have e1:=filt_both (fun i=>upR n (rs.getD i none)) (List.range rs.length)
  rw [List.length_range,← filt_idx] at e1
  have e2:((List.range rs.length).filter fun i=>!upR n (rs.getD i none)).length≤16:=by
    have nd:(((List.range rs.length).filter fun i=>!upR n (rs.getD i none)).map (sig4 n rs)).Nodup:=by
      have h:=(List.nodup_range (n:=rs.length)).filter (fun i=>!upR n (rs.getD i none))
      show List.Pairwise _ _
      rw [List.pairwise_map]
      refine List.Pairwise.imp_of_mem (fun {j k} hj hk ne e=>ne ?_) h
      obtain ⟨j1,j2⟩:=List.mem_filter.mp hj
      obtain ⟨k1,k2⟩:=List.mem_filter.mp hk
      have lv:∀ m,m < rs.length→(!upR n (rs.getD m none)) = true→n≤lev n rs m + 2:=fun m hm hu=>by
        unfold lev
        rw [List.getD_eq_getElem?_getD] at hu
        cases hx:rs[m]? with
        | none=>show n≤n + 2; omega
        | some x =>
          rw [hx] at hu
          cases x with
          | none=>show n≤n + 2; omega
          | some t =>
            obtain ⟨i,lo,hi⟩:=t
            have:¬ i + 2 < n:=fun z=>by
              have:upR n (some (i,lo,hi)) = true:=decide_eq_true z
              simp [this] at hu
            show n≤i + 2
            omega
      exact sig_inj B (List.mem_range.mp j1) (List.mem_range.mp k1) (lv j (List.mem_range.mp j1) j2) (lv k (List.mem_range.mp k1) k2) e
    have:=nodup_le nd (ys:=all4) fun x _=>all4_mem x
    rw [List.length_map] at this
    exact this
  unfold hiN
  omega
def bH (n u:Nat):Nat:=2 ^ (n - 2 - u) - 1
theorem bH_step {n u p:Nat} (h:u≤p):bH n (p + 1) + bH n (p + 1) + (if p + 2 < n then 1 else 0)≤bH n u:=by
  unfold bH
  by_cases hp:p + 2 < n
  · rw [if_pos hp]
    have e:n - 2 - p = (n - 2 - (p + 1)) + 1:=by omega
    have m:2 ^ (n - 2 - p)≤2 ^ (n - 2 - u):=Nat.pow_le_pow_right (by decide) (by omega)
    have p1:1≤2 ^ (n - 2 - (p + 1)):=Nat.one_le_two_pow
    rw [e,Nat.pow_succ] at m
    omega
  · rw [if_neg hp,show n - 2 - (p + 1) = 0 by omega]
    show 1 - 1 + (1 - 1) + 0≤_
    omega
theorem bH_8 {n:Nat} (h:n≤8):bH n 0≤63:=by
  have:2 ^ (n - 2 - 0)≤2 ^ 6:=Nat.pow_le_pow_right (by decide) (by omega)
  have e:2 ^ 6 = 64:=rfl
  unfold bH
  omega
end Bdd
namespace Sen
open PySem L2 Bdd
section
variable (C:Addr) (K:PySem.W.Frag)
inductive spRoomWithH (d:Nat) (vs:List V) (H:Hp) (Q:VK) (E9:XK):Prop
  | mk (b:Addr) (os:List Str) (rs:List Rm) (F:Foot) (t u:Nat) (f:Nat→Bool) (_:vs = [.ref b,.int t]) (_:BookAt C H b os rs F) (_:rs.length + 2 ^ d≤9000000) (_:u≤os.length) (_:os.length + 1≤u + d) (_:IsTab os.length t f) (_:(∀ i,i < u→Free os.length f i)) (_:∀ (k:Nat) (rs':List Rm) (H':Hp),Away F H H'→Tups H H'→BookAt C H' b os rs' F→Grown rs rs'→k < rs'.length→(∀ r,yes rs' k r = f (bits r os.length))→rs'.length + 1≤rs.length + 2 ^ d→(∀ j,rs.length≤j→j < rs'.length→u≤lev os.length rs' j)→hiN os.length rs'≤hiN os.length rs + bH os.length u→Q (.int (k:Nat)) H'):spRoomWithH d vs H Q E9
def GrowH (b:Addr) (os:List Str) (H:Hp) (rs:List Rm) (F:Foot) (f:Row→Bool) (Q:VK):Prop:=∀ (k:Nat) (rs':List Rm) (H':Hp),Away F H H'→Tups H H'→BookAt C H' b os rs' F→Grown rs rs'→Means rs' k f→hiN os.length rs'≤hiN os.length rs + 63→Q (.int (k:Nat)) H'
inductive spEnterH (vs:List V) (H:Hp) (Q:VK) (E9:XK):Prop
  | mk (b p:Addr) (os:List Str) (rs:List Rm) (F:Foot) (s:Sn) (_:vs = [.ref b,.ref p]) (_:BookAt C H b os rs F) (_:rs.length≤8000000) (_:IsS H s p) (_:s.inO os) (_:s.count≤200) (_:s.depth≤24) (_:GrowH C b os H rs F (fun r=>s.val (envR os r)) Q):spEnterH vs H Q E9
inductive spRoomInH (vs:List V) (H:Hp) (Q:VK) (E9:XK):Prop
  | mk (nb b kd:Addr) (os ps:List Str) (ns rs:List Rm) (G F:Foot) (k:Nat) (x:Rm) (kvs:List (Key × V)) (_:vs = [.ref nb,.ref b,.int (k:Nat),.ref kd]) (_:BookAt C H nb ps ns G) (_:BookAt C H b os rs F) (_:Marks os ps) (_:ns.length≤8000000) (_:rs[k]? = some x) (_:H kd = some (.dK kvs)) (_:(∀ i lo hi,x = some (i,lo,hi)→∃ jl jh:Nat,valV kvs (Sum.inl (lo:Int)) = some (.int (jl:Nat))∧valV kvs (Sum.inl (hi:Int)) = some (.int (jh:Nat))∧Means ns jl (fun r=>yes rs lo (trn os ps r))∧Means ns jh (fun r=>yes rs hi (trn os ps r)))) (_:GrowH C nb ps H ns G (fun r=>yes rs k (trn os ps r)) Q):spRoomInH vs H Q E9
inductive spRoomsInH (vs:List V) (H:Hp) (Q:VK) (E9:XK):Prop
  | mk (nb b rl:Addr) (os ps:List Str) (ns rs:List Rm) (G F:Foot) (ks:List Nat) (_:vs = [.ref nb,.ref b,.ref rl]) (_:BookAt C H nb ps ns G) (_:BookAt C H b os rs F) (_:Marks os ps) (_:(∀ x,F x→¬ G x)) (_:H rl = some (.lst (ks.map fun k=>V.int (k:Nat)))) (_:¬ G rl) (_:Rises rs ks) (_:hiN ps.length ns + 63 * ks.length + 16≤8000000) (_:∀ (l:Addr) (H':Hp) (ns':List Rm) (js:List Nat),Away G H H'→Tups H H'→BookAt C H' nb ps ns' G→Grown ns ns'→H l = none→H' l = some (.lst (js.map fun j=>V.int (j:Nat)))→js.length = ks.length→(∀ (i k j:Nat),ks[i]? = some k→js[i]? = some j→Means ns' j (fun r=>yes rs k (trn os ps r)))→hiN ps.length ns'≤hiN ps.length ns + 63 * ks.length→Q (.ref l) H'):spRoomsInH vs H Q E9
end
structure LedH (C:Addr) (H0:Hp) (b:Addr) (os:List Str) (m:Nat) (H:Hp) (rs:List Rm) (F:Foot):Prop where
  same:Same H0 H
  away:∀ x,F x→H0 x = none
  bk:BookAt C H b os rs F
  hi:hiN os.length rs≤m
section
variable {C:Addr} {H0:Hp} {b:Addr} {os:List Str} {m:Nat} {H:Hp} {rs:List Rm} {F:Foot}
theorem LedH.len (h:LedH C H0 b os m H rs F):rs.length≤m + 16:=Nat.le_trans (hi_len ((bookLike C).bk h.bk)) (Nat.add_le_add_right h.hi _)
theorem LedH.new (h:LedH C H0 b os m H rs F) {H':Hp} (g:Same H H'):LedH C H0 b os m H' rs F:=⟨h.same.trans g,h.away,(bookLike C).same h.bk g,h.hi⟩
end
end Sen
namespace L2
open PySem PySem.Spec PyProof.Rows PySem.W
section
variable {prog:Program} {w:World} {A:Around} {E:Value→Shared→Prop} {κ:SortKind} {it:Array Keyed}
theorem minRun_le:∀ (f n r:Nat),r≤1→minRun' f n r≤n + r
  | 0,n,r,_=>Nat.le_refl _
  | f + 1,n,r,h=>by
    rw [minRun'_succ]
    by_cases h64:n < 64
    · rw [if_pos h64]
      exact Nat.le_refl _
    · rw [if_neg h64]
      have:=minRun_le f (n / 2) (max r (n % 2)) (by omega)
      omega
theorem asc_up {n:Nat} {R:Shared→Prop} {G:Nat→Shared→Prop} (hc:∀ m s,1≤m→m < n→R s→kas_cmp prog w A κ it m (m - 1) (fun c s'=>c = false∧R s') s) (hG:∀ s,R s→G n s) :
    ∀ (f a:Nat) (s:Shared),1≤a→a + f = n→R s→(kas_asc (List.toArray (List.range n)) f a).kasWp (kas_cmp prog w A κ it) G s
  | 0,a,s,h1,ha,hs=>by
    have e:a = n:=by omega
    subst e
    exact hG s hs
  | f + 1,a,s,h1,ha,hs=>by
    have g:∀ m,m < n→(List.toArray (List.range n)).getD m 0 = m:=fun m hm=>by simp [Array.getD,hm]
    show kas_cmp prog w A κ it ((List.toArray (List.range n)).getD a 0) ((List.toArray (List.range n)).getD (a - 1) 0) (fun c s'=>(if c = true then KasT.ret a else kas_asc (List.toArray (List.range n)) f (a + 1)).kasWp (kas_cmp prog w A κ it) G s') s
    rw [g a (by omega),g (a - 1) (by omega)]
    refine kas_cmp_mono (hc a s h1 (by omega) hs) fun c s' ⟨e,hs'⟩=>?_
    subst e
    rw [if_neg Bool.false_ne_true]
    exact asc_up hc hG f (a + 1) s' (by omega) (by omega) hs'
theorem runs_up {n:Nat} {R:Shared→Prop} {Q:Unit→SortSt→Shared→Prop} {s:Shared} (h2:2≤n) (hc:∀ m s,1≤m→m < n→R s→kas_cmp prog w A κ it m (m - 1) (fun c s'=>c = false∧R s') s) (hs:R s)
    (hQ:∀ st' s',arrOf st' = (List.toArray (List.range n)).map (kas_item it)→failedOf st' = none→R s'→Q () st' s') :
    kasC (model prog w) A E sortRuns' Q (kas_st κ it (List.toArray (List.range n))) s:=by
  obtain ⟨r,rfl⟩:∃ r,n = r + 2:=⟨n - 2,by omega⟩
  have hrs:(List.toArray (List.range (r + 2))).size = r + 2:=by simp
  rw [sortRuns'_eq]
  refine kasC_bind (kasC_get ?_)
  dsimp only
  have hsz:(arrOf (kas_st κ it (List.toArray (List.range (r + 2))))).size = r + 2:=by
    show ((List.toArray (List.range (r + 2))).map (kas_item it)).size = _
    rw [Array.size_map,hrs]
  have hmr:¬ r + 2 < minRun' (r + 2) (r + 2) 0:=by
    have:=minRun_le (r + 2) (r + 2) 0 (by omega)
    omega
  generalize hμ:minRun' (r + 2) (r + 2) 0 = μ at hmr
  simp only [hsz,hμ]
  refine kasC_bind (kasC_range ?_)
  show kasC _ _ _ (forIn (0 :: 1 :: List.range' 2 r) _ _) _ _ _
  refine kasC_cons ?_
  dsimp only
  rw [if_neg (by omega)]
  simp only [Nat.sub_zero,Nat.zero_add]
  have hcount:(kas_count (r + 2) (List.toArray (List.range (r + 2)))).kasWp (kas_cmp prog w A κ it) (fun x s'=>x = (r + 2,List.toArray (List.range (r + 2)))∧R s') s:=by
    unfold kas_count
    rw [KasT.kasWp_bind]
    refine asc_up (n:=r + 2) hc (fun s' hs'=>?_) (r + 1) 1 s (Nat.le_refl _) (by omega) hs
    show (if (r + 2 == r + 2) = true then KasT.ret (r + 2,List.toArray (List.range (r + 2))) else _).kasWp _ _ s'
    rw [if_pos (beq_self_eq_true _)]
    exact ⟨rfl,hs'⟩
  refine kasC_bind (kas_count_ (by omega) (by rw [hrs]; exact Nat.le_refl _) (fun m p' s' hm1 hm2 hp hg=>?_) hcount)
  obtain ⟨e,hs'⟩:=hg
  cases e
  dsimp only
  rw [if_neg hmr]
  refine kasC_bind (kasC_get ?_)
  rw [show (pendingOf (kas_st κ it (List.toArray (List.range (r + 2))))).back? = none from rfl]
  dsimp only
  refine kasC_bind (kasC_modify (kasC_pure ?_))
  show kasC _ _ _ (forIn (1 :: List.range' 2 r) _ _) _ _ _
  refine kasC_cons ?_
  dsimp only
  rw [if_pos (Nat.le_refl _)]
  refine kasC_pure ?_
  dsimp only
  refine kasC_bind (kasC_range ?_)
  show kasC _ _ _ (forIn (0 :: 1 :: List.range' 2 r) _ _) _ _ _
  refine kasC_cons ?_
  refine kasC_bind (kasC_get ?_)
  rw [if_pos (show (pendingOf (setPending (kas_st κ it (List.toArray (List.range (r + 2)))) ((pendingOf (kas_st κ it (List.toArray (List.range (r + 2))))).push (0,r + 2,0)))).size≤1 from Nat.le_refl 1)]
  refine kasC_pure ?_
  dsimp only
  exact kasC_pure (hQ _ _ rfl rfl hs')
end
section
variable {A:Around} {s:Shared}
theorem oneLt_list {prog:Program} {w:World} {E:Value→Shared→Prop} {l b:Addr} {items items2:Array Value} {e f:Nat→Bool} {Q:Bool→Shared→Prop} (hl:s.heap.IsList l items) (hb:s.heap.IsList b items2) (hu:A.units < cLine)
    (he:∀ j (h1:j < items.size) (h2:j < items2.size),SeqAt.EqAt A.in1 s items[j] items2[j] (e j)) (hf:∀ j (h1:j < items.size) (h2:j < items2.size),e j = false→SeqAt.LtAt A.in1 s items[j] items2[j] (f j))
    (h:Q (SeqAt.lexB e f items.size items2.size (min items.size items2.size) 0) s):wpAny (model prog w) A (keyLt' oneType' (.ref l) (.ref b)) Q E s:=by
  obtain ⟨⟨cls,dd,data,sl⟩,ho,hc,n,hd⟩:=id hl
  obtain ⟨⟨cls2,dd2,data2,sl2⟩,ho2,hc2,n2,hd2⟩:=id hb
  simp only at hc hd hc2 hd2
  subst hc hd hc2 hd2
  rw [keyLt'_oneType,oneLt'_eq]
  simp only [if_true]
  refine wpAny_bind (wpAny_cRoomFor hu ?_)
  refine wpAny_bind (wpAny_callSpecialIfBound?_slot (T := "list") ⟨_,ho,rfl⟩ F.slot_list_lt (call_meets F.slot_list_lt ⟨_,ho,rfl⟩ F.entry_list_lt (F.args_list_lt_2 _ _) (SeqAt.list_ltAt l b items items2 n n2 dd dd2 sl sl2 e f) ⟨ho,ho2,?_,?_,?_⟩))
  · exact he
  · exact hf
  · exact wpAny_truthy_bool h
end
end L2
namespace Bdd
open PySem
def mxr (ρ r:Row) (m:Nat):Row:=fun i=>if i < m then ρ i else r i
theorem mxr_lt {ρ r:Row} {m i:Nat} (h:i < m):mxr ρ r m i = ρ i:=if_pos h
theorem mxr_ge {ρ r:Row} {m i:Nat} (h:m≤i):mxr ρ r m i = r i:=if_neg (by omega)
section
variable {n:Nat} {rs:List Rm} (B:Bk n rs)
include B
theorem yes_mxr {k m:Nat} (hk:k < rs.length) (h:m≤lev n rs k) (ρ r:Row):yes rs k (mxr ρ r m) = yes rs k r :=
  yes_congr B k k (Nat.le_refl _) hk fun i hi _=>mxr_ge (by omega)
theorem reach_part {k j:Nat} (hk:k < rs.length) (h:Reach rs k j):∃ ρ:Row,∀ r,yes rs j r = yes rs k (mxr ρ r (lev n rs j)):=by
  have S:j < rs.length∧∃ ρ:Row,∀ r,yes rs j r = yes rs k (mxr ρ r (lev n rs j)):=by
    refine Reach.closed (S:=fun j=>j < rs.length∧∃ ρ:Row,∀ r,yes rs j r = yes rs k (mxr ρ r (lev n rs j))) ⟨hk,fun _=>false,fun r=>(yes_mxr B hk (Nat.le_refl _) _ r).symm⟩ (fun {m i lo hi} hm e=>?_) h
    obtain ⟨hm,ρ,hρ⟩:=hm
    have m2:2≤m:=by
      rcases Nat.lt_or_ge m 2 with z | z
      · have:m = 0∨m = 1:=by omega
        rcases this with z | z
        · rw [z,B.h0] at e; cases e
        · rw [z,B.h1] at e; cases e
      · exact z
    obtain ⟨i',lo',hi',e',hin,llo,lhi,hne,l1,l2⟩:=B.rm m m2 hm
    rw [e] at e'
    cases e'
    have lm:lev n rs m = i:=lev_of B e
    have part:∀ (c:Nat) (v:Bool),c < rs.length→i < lev n rs c→(∀ r,yes rs m (put r i v) = yes rs c r)→∃ ρ':Row,∀ r,yes rs c r = yes rs k (mxr ρ' r (lev n rs c)):=fun c v hc hl hy=>by
      refine ⟨put ρ i v,fun r=>?_⟩
      rw [← yes_mxr B hc (Nat.le_refl _) (put ρ i v) r,← hy,hρ,lm]
      congr 1
      funext p
      by_cases h1:p < i
      · rw [mxr_lt h1,mxr_lt (by omega)]
        unfold put
        rw [if_neg (by omega)]
      · rw [mxr_ge (by omega)]
        by_cases h2:p = i
        · subst h2
          rw [mxr_lt hl]
          unfold put
          rw [if_pos rfl,if_pos rfl]
        · unfold put
          rw [if_neg h2]
    exact ⟨⟨by omega,part lo false (by omega) l1 fun r=>(yes_lo B e hm r).1⟩,⟨by omega,part hi true (by omega) l2 fun r=>(yes_lo B e hm r).2⟩⟩
  exact S.2
theorem part_reach (ρ:Row) (m:Nat):∀ (f k:Nat),k≤f→k < rs.length→∃ j,Reach rs k j∧j < rs.length∧(m≤lev n rs j∨n≤lev n rs j)∧∀ r,yes rs j r = yes rs k (mxr ρ r m):=by
  intro f
  induction f with
  | zero =>
    intro k hf hk
    have e:k = 0:=by omega
    subst e
    exact ⟨0,.refl _,hk,.inr (by rw [lev_no B]; exact Nat.le_refl _),fun r=>rfl⟩
  | succ f ih =>
    intro k hf hk
    by_cases hm:m≤lev n rs k
    · exact ⟨k,.refl _,hk,.inl hm,fun r=>(yes_mxr B hk hm ρ r).symm⟩
    · by_cases k2:2≤k
      · obtain ⟨i,lo,hi,e,hin,llo,lhi,hne,l1,l2⟩:=B.rm k k2 hk
        have lk:lev n rs k = i:=lev_of B e
        obtain ⟨j,h1,h2,h3,h4⟩:=ih (if ρ i then hi else lo) (by split <;> omega) (by split <;> omega)
        refine ⟨j,?_,h2,h3,fun r=>?_⟩
        · cases hb:ρ i with
          | true=>rw [hb] at h1; exact .hi e h1
          | false=>rw [hb] at h1; exact .lo e h1
        · rw [h4,yes_step B e,mxr_lt (by omega)]
          split <;> rfl
      · have:k = 0∨k = 1:=by omega
        rcases this with z | z
        · subst z
          exact ⟨0,.refl _,hk,.inr (by rw [lev_no B]; exact Nat.le_refl _),fun r=>rfl⟩
        · subst z
          exact ⟨1,.refl _,hk,.inr (by rw [lev_yes B]; exact Nat.le_refl _),fun r=>by rw [yes_yes B,yes_yes B]⟩
end
end Bdd
namespace L2
open PySem PySem.Spec PyProof.Rows PySem.W
section
variable {X:Cx}
theorem op_addLK {K:PySem.W.Frag} (h:X.K = K):OpR X (binaryOp .Add) (rAddL K):=by subst h; exact op_addL
end
end L2
namespace Sen
open PySem L2 Bdd
theorem eq_sameB {K:PySem.W.Frag} {H:Hp} {n:Nat} {p q:Addr} {xs:List V} (hp:SqL K H p xs) (hq:SqL K H q xs) (hf:∀ x∈xs,flatV x = true):EqD K H (n + 1) (.ref p) (.ref q) true :=
  eq_ll hp hq rfl fun j x y hx hy=>by
    rw [hx] at hy
    cases hy
    exact eq_flat (hf x (List.mem_of_getElem? hx))
end Sen
namespace L2
open PySem PySem.Spec PyProof.Rows PySem.W
theorem tests_by {X:Cx} {c:Expr} {t:TT} {pins:List (Addr × Obj)} {s:Shared} {σ:St} {H:Hp} {Q:Bool→Hp→Prop} (I:Inv X pins σ H s) (h:t σ H Q) (hp:PT X c t):wpAny (model X.prog X.w) X.A (lcTests [c] X.env) (TP X pins σ Q) X.xe s:=wpAny_tests_one (hp pins s σ H Q I h)
end L2
namespace Bdd
open PySem L2
theorem filt_two {α:Type} (p q:α→Bool):∀ l:List α,(l.filter p).length = (l.filter fun x=>p x && q x).length + (l.filter fun x=>p x && !q x).length
  | []=>rfl
  | x :: l=>by
    have ih:=filt_two p q l
    simp only [List.filter_cons]
    cases p x <;> cases q x <;> simp <;> omega
end Bdd
namespace Bdd
open PySem Sen
def unlF (acc l:List (List Bool)):List (List Bool):=l.foldl (fun acc x=>if x∈acc then acc else acc ++ [x]) acc
def unl (l:List (List Bool)):List (List Bool):=unlF [] l
theorem unlF_all:∀ (l acc:List (List Bool)),acc.Nodup→(unlF acc l).Nodup∧∀ x,x∈unlF acc l↔x∈acc∨x∈l
  | [],acc,h=>⟨h,fun x=>⟨.inl,fun z=>z.elim id (fun y=>by cases y)⟩⟩
  | y :: l,acc,h=>by
    show (unlF (if y∈acc then acc else acc ++ [y]) l).Nodup∧∀ x,x∈unlF (if y∈acc then acc else acc ++ [y]) l↔_
    by_cases hy:y∈acc
    · rw [if_pos hy]
      obtain ⟨a,b⟩:=unlF_all l acc h
      refine ⟨a,fun x=>(b x).trans ⟨fun z=>z.elim .inl (fun w=>.inr (List.mem_cons_of_mem _ w)),fun z=>z.elim .inl fun w=>?_⟩⟩
      rcases List.mem_cons.mp w with w | w
      · rw [w]; exact .inl hy
      · exact .inr w
    · rw [if_neg hy]
      have h':(acc ++ [y]).Nodup:=by
        rw [List.nodup_append]
        refine ⟨h,by simp,fun a ha b hb=>?_⟩
        rw [List.mem_singleton.mp hb]
        exact fun e=>hy (e ▸ ha)
      obtain ⟨a,b⟩:=unlF_all l _ h'
      refine ⟨a,fun x=>(b x).trans ?_⟩
      rw [List.mem_append,List.mem_singleton,List.mem_cons,or_assoc]
theorem unl_nd (l:List (List Bool)):(unl l).Nodup:=(unlF_all l [] List.nodup_nil).1
theorem unl_mem (l:List (List Bool)) (x:List Bool):x∈unl l↔x∈l:=((unlF_all l [] List.nodup_nil).2 x).trans ⟨fun z=>z.elim (fun y=>by cases y) id,.inr⟩
def mean:Nat→List (List Bool)→Nat
  | 0,ps=>(unl ps).length
  | d + 1,ps=>((unl ps).filter fun x=>x.take (2 ^ d) != x.drop (2 ^ d)).length + mean d ((unl ps).map (List.take (2 ^ d)) ++ (unl ps).map (List.drop (2 ^ d)))
def tbl:Nat→Nat→(Row→Bool)→List Bool
  | 0,_,g=>[g fun _=>false]
  | d + 1,m,g=>tbl d (m + 1) (fun r=>g (put r m false)) ++ tbl d (m + 1) (fun r=>g (put r m true))
theorem tbl_len:∀ (d m:Nat) (g:Row→Bool),(tbl d m g).length = 2 ^ d
  | 0,_,_=>rfl
  | d + 1,m,g=>by
    show (tbl d (m + 1) _ ++ tbl d (m + 1) _).length = _
    rw [List.length_append,tbl_len,tbl_len,Nat.pow_succ]; omega
theorem tbl_lo (d m:Nat) (g:Row→Bool):(tbl (d + 1) m g).take (2 ^ d) = tbl d (m + 1) (fun r=>g (put r m false)):=List.take_left' (tbl_len _ _ _)
theorem tbl_hi (d m:Nat) (g:Row→Bool):(tbl (d + 1) m g).drop (2 ^ d) = tbl d (m + 1) (fun r=>g (put r m true)):=List.drop_left' (tbl_len _ _ _)
def Dep (n m:Nat) (g:Row→Bool):Prop:=∀ r r':Row,(∀ i,m≤i→i < n→r i = r' i)→g r = g r'
theorem Dep.put {n m:Nat} {g:Row→Bool} (h:Dep n m g) (v:Bool):Dep n (m + 1) (fun r=>g (put r m v)):=fun r r' e=>h _ _ fun i h1 h2=>by
  unfold Bdd.put
  by_cases z:i = m
  · rw [if_pos z,if_pos z]
  · rw [if_neg z,if_neg z]; exact e i (by omega) h2
theorem tbl_inj {n:Nat}:∀ (d m:Nat) {g h:Row→Bool},m + d = n→Dep n m g→Dep n m h→tbl d m g = tbl d m h→∀ r,g r = h r
  | 0,m,g,h,e,hg,hh,t,r=>by
    have t':g (fun _=>false) = h fun _=>false:=by injection t
    rw [hg r (fun _=>false) fun i _ _=>by omega,hh r (fun _=>false) fun i _ _=>by omega,t']
  | d + 1,m,g,h,e,hg,hh,t,r=>by
    have t':tbl d (m + 1) (fun r=>g (put r m false)) ++ tbl d (m + 1) (fun r=>g (put r m true)) = tbl d (m + 1) (fun r=>h (put r m false)) ++ tbl d (m + 1) (fun r=>h (put r m true)):=t
    obtain ⟨t1,t2⟩:=List.append_inj t' (by rw [tbl_len,tbl_len])
    have e1:=tbl_inj d (m + 1) (by omega) (hg.put false) (hh.put false) t1 r
    have e2:=tbl_inj d (m + 1) (by omega) (hg.put true) (hh.put true) t2 r
    rw [← put_self r m]
    cases r m
    · exact e1
    · exact e2
theorem tbl_congr {d m:Nat} {g h:Row→Bool} (e:∀ r,g r = h r):tbl d m g = tbl d m h:=by rw [funext e]
section
variable {n:Nat} {rs:List Rm} (B:Bk n rs)
include B
theorem yes_dep {j m:Nat} (hj:j < rs.length) (h:m≤lev n rs j):Dep n m (yes rs j):=fun r r' e=>yes_congr B j j (Nat.le_refl _) hj fun i h1 h2=>e i (by omega) h2
theorem lev_hangs {j d:Nat} (hj:j < rs.length) (h:lev n rs j + (d + 1) = n):tbl d (lev n rs j + 1) (fun r=>yes rs j (put r (lev n rs j) false))≠tbl d (lev n rs j + 1) (fun r=>yes rs j (put r (lev n rs j) true)):=by
  have z:2≤j:=by
    rcases Nat.lt_or_ge j 2 with z | z
    · exfalso
      have:lev n rs j = n:=by
        unfold lev
        have:j = 0∨j = 1:=by omega
        rcases this with z | z <;> subst z
        · rw [B.h0]
        · rw [B.h1]
      omega
    · exact z
  obtain ⟨i,lo,hi,e,hin,llo,lhi,hne,l1,l2⟩:=B.rm j z hj
  have le:=lev_of B e
  intro t
  have dj:=yes_dep B hj (Nat.le_refl _)
  have:=tbl_inj d (lev n rs j + 1) (by omega) (dj.put false) (dj.put true) t
  refine hne (one_room B (max lo hi) lo hi ⟨Nat.le_max_left _ _,Nat.le_max_right _ _⟩ (by omega) (by omega) fun r=>?_)
  have h1:=yes_lo B e hj r
  rw [← h1.1,← h1.2]
  have:=this r
  rw [le] at this
  exact this
end
def prt (rs:List Rm) (k:Nat) (ρ:Row) (m:Nat):Row→Bool:=fun r=>yes rs k (mxr ρ r m)
theorem prt_put (rs:List Rm) (k:Nat) (ρ:Row) (m:Nat) (v:Bool):(fun r=>prt rs k ρ m (put r m v)) = prt rs k (put ρ m v) (m + 1):=by
  funext r
  unfold prt
  congr 1
  funext i
  by_cases h1:i < m
  · rw [mxr_lt h1,mxr_lt (by omega)]
    unfold put
    rw [if_neg (by omega)]
  · rw [mxr_ge (by omega)]
    by_cases h2:i = m
    · rw [mxr_lt (by omega)]
      unfold put
      rw [if_pos h2,if_pos h2]
    · rw [mxr_ge (by omega)]
      unfold put
      rw [if_neg h2]
theorem map_nd {α β:Type} {f:α→β}:∀ {l:List α},l.Nodup→(∀ x∈l,∀ y∈l,f x = f y→x = y)→(l.map f).Nodup
  | [],_,_=>List.nodup_nil
  | a :: l,nd,h=>by
    rw [List.nodup_cons] at nd
    rw [List.map_cons,List.nodup_cons]
    refine ⟨fun z=>?_,map_nd nd.2 fun x hx y hy=>h x (List.mem_cons_of_mem _ hx) y (List.mem_cons_of_mem _ hy)⟩
    obtain ⟨y,hy,e⟩:=List.mem_map.mp z
    have:=h y (List.mem_cons_of_mem _ hy) a List.mem_cons_self e
    exact nd.1 (this ▸ hy)
theorem same_len {α:Type} [DecidableEq α] {xs ys:List α} (h1:xs.Nodup) (h2:ys.Nodup) (h:∀ x,x∈xs↔x∈ys):xs.length = ys.length:=Nat.le_antisymm (sub_len h1 fun x hx=>(h x).mp hx) (sub_len h2 fun x hx=>(h x).mpr hx)
theorem mean_is {n:Nat} {rs:List Rm} (B:Bk n rs) {k:Nat} (hk:k < rs.length) {ks:List Nat} (nd:ks.Nodup) (hks:∀ j,j∈ks↔Reach rs k j):∀ (d m:Nat) (ps:List (List Bool)),m + d = n→(∀ x,x∈ps↔∃ ρ,x = tbl d m (prt rs k ρ m))→mean d ps = (ks.filter fun j=>decide (m≤lev n rs j)).length
  | 0,m,ps,e,hp=>by
    have em:m = n:=by omega
    subst em
    show (unl ps).length = _
    have fin:∀ j,j∈ks→j < rs.length:=fun j hj=>((hks j).mp hj).lt B hk
    rw [← List.length_map (f:=fun j=>tbl 0 m (yes rs j)) (as:=ks.filter fun j=>decide (m≤lev m rs j))]
    refine same_len (unl_nd ps) (map_nd (nd.filter _) fun x hx y hy e=>?_) fun x=>?_
    · obtain ⟨x1,x2⟩:=List.mem_filter.mp hx
      obtain ⟨y1,y2⟩:=List.mem_filter.mp hy
      exact one_room B (max x y) x y ⟨Nat.le_max_left _ _,Nat.le_max_right _ _⟩ (fin x x1) (fin y y1) (tbl_inj 0 m (by omega) (yes_dep B (fin x x1) (of_decide_eq_true x2)) (yes_dep B (fin y y1) (of_decide_eq_true y2)) e)
    · rw [unl_mem,hp,List.mem_map]
      constructor
      · rintro ⟨ρ,rfl⟩
        obtain ⟨j,a1,a2,a3,a4⟩:=part_reach B ρ m k k (Nat.le_refl _) hk
        exact ⟨j,List.mem_filter.mpr ⟨(hks j).mpr a1,decide_eq_true (a3.elim id id)⟩,tbl_congr a4⟩
      · rintro ⟨j,hj,rfl⟩
        obtain ⟨j1,j2⟩:=List.mem_filter.mp hj
        obtain ⟨ρ,hρ⟩:=reach_part B hk ((hks j).mp j1)
        have el:lev m rs j = m:=Nat.le_antisymm (lev_le B j (fin j j1)) (of_decide_eq_true j2)
        rw [el] at hρ
        exact ⟨ρ,tbl_congr hρ⟩
  | d + 1,m,ps,e,hp=>by
    have fin:∀ j,j∈ks→j < rs.length:=fun j hj=>((hks j).mp hj).lt B hk
    have ih:=mean_is B hk nd hks d (m + 1) ((unl ps).map (List.take (2 ^ d)) ++ (unl ps).map (List.drop (2 ^ d))) (by omega) fun x=>by
      rw [List.mem_append,List.mem_map,List.mem_map]
      constructor
      · rintro (⟨y,hy,rfl⟩ | ⟨y,hy,rfl⟩) <;> rw [unl_mem,hp] at hy <;> obtain ⟨ρ,rfl⟩:=hy
        · exact ⟨put ρ m false,by rw [tbl_lo,prt_put]⟩
        · exact ⟨put ρ m true,by rw [tbl_hi,prt_put]⟩
      · rintro ⟨ρ,rfl⟩
        have hm:tbl (d + 1) m (prt rs k ρ m)∈unl ps:=(unl_mem _ _).mpr ((hp _).mpr ⟨ρ,rfl⟩)
        have es:=put_self ρ m
        cases hv:ρ m with
        | false=>exact .inl ⟨_,hm,by rw [tbl_lo,prt_put,← hv,es]⟩
        | true=>exact .inr ⟨_,hm,by rw [tbl_hi,prt_put,← hv,es]⟩
    show ((unl ps).filter fun x=>x.take (2 ^ d) != x.drop (2 ^ d)).length + mean d _ = _
    rw [ih,filt_two (fun j=>decide (m≤lev n rs j)) (fun j=>decide (lev n rs j = m)) ks]
    congr 1
    · have e2:(ks.filter fun j=>decide (m≤lev n rs j) && decide (lev n rs j = m)) = ks.filter fun j=>decide (lev n rs j = m):=by
        refine List.filter_congr fun j _=>?_
        by_cases z:lev n rs j = m
        · rw [decide_eq_true z,Bool.and_true,decide_eq_true (by omega)]
        · rw [decide_eq_false z,Bool.and_false]
      rw [e2,← List.length_map (f:=fun j=>tbl (d + 1) m (yes rs j)) (as:=ks.filter fun j=>decide (lev n rs j = m))]
      refine same_len ((unl_nd ps).filter _) (map_nd (nd.filter _) fun x hx y hy e'=>?_) fun x=>?_
      · obtain ⟨x1,x2⟩:=List.mem_filter.mp hx
        obtain ⟨y1,y2⟩:=List.mem_filter.mp hy
        have x3:=of_decide_eq_true x2
        have y3:=of_decide_eq_true y2
        exact one_room B (max x y) x y ⟨Nat.le_max_left _ _,Nat.le_max_right _ _⟩ (fin x x1) (fin y y1) (tbl_inj (d + 1) m e (yes_dep B (fin x x1) (by omega)) (yes_dep B (fin y y1) (by omega)) e')
      · rw [List.mem_filter,unl_mem,hp,List.mem_map]
        constructor
        · rintro ⟨⟨ρ,rfl⟩,hd⟩
          rw [tbl_lo,tbl_hi] at hd
          obtain ⟨j,a1,a2,a3,a4⟩:=part_reach B ρ m k k (Nat.le_refl _) hk
          have le:m≤lev n rs j:=a3.elim id (fun z=>by omega)
          have el:lev n rs j = m:=by
            refine Nat.le_antisymm (Nat.le_of_not_lt fun hlt=>?_) le
            have dj:=yes_dep B a2 (m:=m + 1) (by omega)
            have same:∀ v,tbl d (m + 1) (fun r=>prt rs k ρ m (put r m v)) = tbl d (m + 1) (yes rs j):=fun v=>tbl_congr fun r=>by
              rw [show prt rs k ρ m (put r m v) = yes rs j (put r m v) from (a4 _).symm]
              refine dj _ _ fun i h1 h2=>?_
              unfold put
              rw [if_neg (by omega)]
            rw [same false,same true] at hd
            simp at hd
          exact ⟨j,List.mem_filter.mpr ⟨(hks j).mpr a1,decide_eq_true el⟩,tbl_congr a4⟩
        · rintro ⟨j,hj,rfl⟩
          obtain ⟨j1,j2⟩:=List.mem_filter.mp hj
          have el:=of_decide_eq_true j2
          obtain ⟨ρ,hρ⟩:=reach_part B hk ((hks j).mp j1)
          rw [el] at hρ
          refine ⟨⟨ρ,tbl_congr hρ⟩,?_⟩
          rw [tbl_lo,tbl_hi]
          have:=lev_hangs B (d:=d) (fin j j1) (by omega)
          rw [el] at this
          exact bne_iff_ne.mpr this
    · congr 1
      refine List.filter_congr fun j _=>?_
      by_cases z:lev n rs j = m
      · rw [decide_eq_true z,decide_eq_false (by omega)]; simp
      · rw [decide_eq_false z]
        by_cases z2:m≤lev n rs j
        · rw [decide_eq_true z2,decide_eq_true (by omega)]; rfl
        · rw [decide_eq_false z2,decide_eq_false (by omega)]; rfl
theorem mean_below {n:Nat} {rs:List Rm} (B:Bk n rs) {k:Nat} (hk:k < rs.length) {ms:List Int} (h:IsBelow rs k ms):mean n [tbl n 0 (yes rs k)] = ms.length:=by
  have nat:∀ x∈ms,∃ j:Nat,x = j∧Reach rs k j:=fun x hx=>(h.mem x).mp hx
  have nd:(ms.map Int.toNat).Nodup:=by
    rw [List.Nodup,List.pairwise_map]
    refine List.Pairwise.imp_of_mem (fun {a b} ha hb hl e=>?_) h.up
    obtain ⟨j,e1,_⟩:=nat a ha
    obtain ⟨j',e2,_⟩:=nat b hb
    omega
  have mem:∀ j,j∈ms.map Int.toNat↔Reach rs k j:=fun j=>by
    rw [List.mem_map]
    constructor
    · rintro ⟨x,hx,rfl⟩
      obtain ⟨j,e,r⟩:=nat x hx
      rw [e]; exact r
    · exact fun r=>⟨j,(h.mem _).mpr ⟨j,rfl,r⟩,rfl⟩
  rw [mean_is B hk nd mem n 0 _ (by omega) fun x=>?_]
  · rw [List.filter_eq_self.mpr fun j _=>decide_eq_true (Nat.zero_le _),List.length_map]
  · rw [List.mem_singleton]
    have e:∀ ρ,prt rs k ρ 0 = yes rs k:=fun ρ=>funext fun r=>by
      unfold prt
      congr 1
    constructor
    · exact fun z=>⟨fun _=>false,by rw [z,e]⟩
    · rintro ⟨ρ,z⟩
      rw [z,e]
theorem allR_cons:∀ d:Nat,allR (d + 1) = (allR d).map (List.cons false) ++ (allR d).map (List.cons true)
  | 0=>rfl
  | d + 1=>by
    have f:∀ (b:Bool) (l:List (List Bool)),(l.map (List.cons b)).flatMap (fun r=>[r ++ [false],r ++ [true]]) = (l.flatMap fun r=>[r ++ [false],r ++ [true]]).map (List.cons b):=fun b l=>by
      induction l with
      | nil=>rfl
      | cons x l ih=>rw [List.map_cons,List.flatMap_cons,List.flatMap_cons,ih,List.map_append]; rfl
    exact (congrArg (fun l:List (List Bool)=>l.flatMap fun r=>[r ++ [false],r ++ [true]]) (allR_cons d)).trans (by show List.flatMap _ (_ ++ _) = _; rw [List.flatMap_append,f,f]; rfl)
theorem tbl_rows:∀ (d m:Nat) (g:Row→Bool) , (allR d).map (fun r=>g (fun i=>if i < m then false else r.getD (i - m) false)) = tbl d m (fun r=>g (fun i=>if i < m then false else r i))
  | 0,m,g=>by
    show [g _] = [g _]
    congr 2
  | d + 1,m,g=>by
    have one:∀ b:Bool,(allR d).map (fun r=>g (fun i=>if i < m then false else (b :: r).getD (i - m) false)) = tbl d (m + 1) (fun r=>g (fun i=>if i < m then false else put r m b i)):=fun b=>by
      have:=tbl_rows d (m + 1) (fun r=>g (put r m b))
      refine Eq.trans (List.map_congr_left fun r _=>?_) (this.trans (tbl_congr fun r=>?_))
      · show g _ = g _
        congr 1
        funext i
        unfold put
        dsimp only
        by_cases h1:i < m
        · rw [if_pos h1,if_neg (by omega),if_pos (by omega)]
        · rw [if_neg h1]
          by_cases h2:i = m
          · rw [if_pos h2,h2,Nat.sub_self]; rfl
          · rw [if_neg h2,if_neg (by omega)]
            obtain ⟨x,hx⟩:∃ x,i - m = x + 1:=⟨i - m - 1,by omega⟩
            rw [hx,show i - (m + 1) = x by omega]; rfl
      · show g _ = g _
        congr 1
        funext i
        unfold put
        dsimp only
        by_cases h1:i < m
        · rw [if_pos h1,if_neg (by omega),if_pos (by omega)]
        · rw [if_neg h1]
          by_cases h2:i = m
          · rw [if_pos h2,if_pos h2]
          · rw [if_neg h2,if_neg (by omega),if_neg h2]
    rw [allR_cons,List.map_append,List.map_map,List.map_map]
    exact congr (congrArg _ (one false)) (one true)
theorem tbl_all (n:Nat) (g:Row→Bool):(allR n).map (fun r=>g (rowL r)) = tbl n 0 g:=by
  have:=tbl_rows n 0 g
  simp only [Nat.not_lt_zero,if_false,Nat.sub_zero] at this
  exact this
end Bdd
namespace L2
open PySem PySem.Spec PyProof.Rows
theorem pd_ext {α β:Type} {R:α→β→Prop}:∀ {xs:List α} {ys:List β},xs.length = ys.length→(∀ (j:Nat) x y,xs[j]? = some x→ys[j]? = some y→R x y)→Paired R xs ys
  | [],[],_,_=>.nil
  | [],_ :: _,e,_=>by cases e
  | _ :: _,[],e,_=>by cases e
  | x :: xs,y :: ys,e,h=>.cons (h 0 x y rfl rfl) (pd_ext (Nat.succ.inj e) fun j a b h1 h2=>h (j + 1) a b h1 h2)
end L2
namespace Sen
open PySem L2 Bdd
def prm:Nat→List Str→List (List Str)
  | 0,_=>[[]]
  | k + 1,ms=>ms.flatMap fun m=>(prm k (ms.filter fun x=>!decide (x = m))).map (m :: ·)
theorem prm_next:∀ (k:Nat) (ms:List Str),prm (k + 1) ms = (prm k ms).flatMap fun o=>(ms.filter fun x=>!decide (x∈o)).map fun x=>o ++ [x]
  | 0,ms=>by
    show ms.flatMap (fun m=>[[m]]) = [[]].flatMap _
    rw [List.flatMap_cons,List.flatMap_nil,List.append_nil]
    have:(ms.filter fun x=>!decide (x∈([]:List Str))) = ms:=List.filter_eq_self.mpr fun x _=>by simp
    rw [this]
    induction ms with
    | nil=>rfl
    | cons m ms ih=>rw [List.flatMap_cons,ih (List.filter_eq_self.mpr fun x _=>by simp)]; rfl
  | k + 1,ms=>by
    show ms.flatMap (fun m=>(prm (k + 1) (ms.filter fun x=>!decide (x = m))).map (m :: ·)) = (ms.flatMap fun m=>(prm k (ms.filter fun x=>!decide (x = m))).map (m :: ·)).flatMap _
    rw [List.flatMap_assoc]
    congr 1
    funext m
    rw [prm_next k (ms.filter fun x=>!decide (x = m)),List.map_flatMap,List.flatMap_map]
    congr 1
    funext o
    rw [List.map_map,List.filter_filter]
    have:(fun x=>(!decide (x∈o)) && !decide (x = m)) = fun x=>!decide (x∈m :: o):=funext fun x=>by
      by_cases h1:x = m <;> by_cases h2:x∈o <;> simp [h1,h2]
    rw [this]
    rfl
theorem prm_len:∀ (k:Nat) (ms:List Str),∀ o∈prm k ms,o.length = k
  | 0,ms,o,h=>by rw [List.mem_singleton.mp h]; rfl
  | k + 1,ms,o,h=>by
    obtain ⟨m,_,h2⟩:=List.mem_flatMap.mp h
    obtain ⟨o',h3,rfl⟩:=List.mem_map.mp h2
    rw [List.length_cons,prm_len k _ o' h3]
theorem prm_sub:∀ (k:Nat) (ms:List Str),∀ o∈prm k ms,o.Nodup∧∀ x∈o,x∈ms
  | 0,ms,o,h=>by rw [List.mem_singleton.mp h]; exact ⟨List.nodup_nil,fun x hx=>by cases hx⟩
  | k + 1,ms,o,h=>by
    obtain ⟨m,hm,h2⟩:=List.mem_flatMap.mp h
    obtain ⟨o',h3,rfl⟩:=List.mem_map.mp h2
    obtain ⟨a,b⟩:=prm_sub k _ o' h3
    refine ⟨List.nodup_cons.mpr ⟨fun z=>?_,a⟩,fun x hx=>?_⟩
    · have:=b m z
      rw [List.mem_filter] at this
      simp at this
    · rcases List.mem_cons.mp hx with e | hx
      · rw [e]; exact hm
      · exact (List.mem_filter.mp (b x hx)).1
theorem prm_size:∀ (k:Nat) (ms:List Str),(prm k ms).length≤ms.length ^ k
  | 0,ms=>Nat.le_refl _
  | k + 1,ms=>by
    show (ms.flatMap fun m=>(prm k (ms.filter fun x=>!decide (x = m))).map (m :: ·)).length≤_
    have:∀ l:List Str,(l.flatMap fun m=>(prm k (ms.filter fun x=>!decide (x = m))).map (m :: ·)).length≤l.length * ms.length ^ k:=fun l=>by
      induction l with
      | nil=>exact Nat.zero_le _
      | cons m l ih =>
        rw [List.flatMap_cons,List.length_append,List.length_map,List.length_cons,Nat.succ_mul]
        have h1:=prm_size k (ms.filter fun x=>!decide (x = m))
        have h2:(ms.filter fun x=>!decide (x = m)).length ^ k≤ms.length ^ k:=Nat.pow_le_pow_left (List.length_filter_le _ _) k
        omega
    rw [Nat.pow_succ,Nat.mul_comm]
    exact this ms
theorem pow5 {n k:Nat} (hn:n≤5) (hk:k≤5):n ^ k≤3125:=by
  refine Nat.le_trans (Nat.pow_le_pow_left hn k) ?_
  exact Nat.le_trans (Nat.pow_le_pow_right (by decide) hk) (by decide)
theorem small3125 {n:Nat} (h:n≤3125):n < sizeLine:=Nat.lt_of_le_of_lt h (by decide)
def OrdL (H0 H:Hp) (ps:List Addr) (os:List (List Str)):Prop:=Paired (fun p o=>H0 p = none∧H p = some (.lst (o.map V.str))) ps os
theorem OrdL.mono {H0 H H':Hp} {ps:List Addr} {os:List (List Str)} (h:OrdL H0 H ps os) (g:Same H H'):OrdL H0 H' ps os:=pd_imp (fun _ _ e=>⟨e.1,g _ _ e.2⟩) h
theorem OrdL.old {H0 H1 H:Hp} {ps:List Addr} {os:List (List Str)} (h:OrdL H1 H ps os) (g:Same H0 H1):OrdL H0 H ps os:=pd_imp (fun _ _ e=>⟨g.free e.1,e.2⟩) h
inductive spAllOrders (K:PySem.W.Frag) (d:Nat) (vs:List V) (H:Hp) (Q:VK) (E9:XK):Prop
  | mk (l:Addr) (ms:List Str) (_:vs = [.ref l]) (_:SqL K H l (ms.map V.str)) (_:ms.Nodup) (_:ms.length≤5) (_:ms.length < d) (_:∀ (l':Addr) (H':Hp) (ps:List Addr),Same H H'→H l' = none→H' l' = some (.lst (ps.map V.ref))→OrdL H H' ps (prm ms.length ms)→Q (.ref l') H'):spAllOrders K d vs H Q E9
inductive spSizeOf5 (C:Addr) (vs:List V) (H:Hp) (Q:VK) (E9:XK):Prop
  | mk (b:Addr) (os:List Str) (rs:List Rm) (F:Foot) (k:Nat) (_:vs = [.ref b,.int (k:Nat)]) (_:BookAt C H b os rs F) (_:k < rs.length) (_:os.length≤5) (_:∀ (H':Hp) (ms:List Int),Same H H'→IsBelow rs k ms→Q (.int (ms.length:Nat)) H'):spSizeOf5 C vs H Q E9
inductive spSizeIn (C:Addr) (K:PySem.W.Frag) (vs:List V) (H:Hp) (Q:VK) (E9:XK):Prop
  | mk (b pl:Addr) (os ps:List Str) (rs:List Rm) (F:Foot) (k:Nat) (_:vs = [.ref b,.int (k:Nat),.ref pl]) (_:BookAt C H b os rs F) (_:k < rs.length) (_:SqL K H pl (ps.map V.str)) (_:IsOrd ps) (_:Marks os ps) (_:ps.length = os.length) (_:os.length≤5) (_:∀ H',Same H H'→Q (.int (mean os.length [(allR os.length).map fun r=>yes rs k (trn os ps (rowL r))]:Nat)) H'):spSizeIn C K vs H Q E9
theorem filt_ne {m:Str}:∀ {ms:List Str},ms.Nodup→m∈ms→(ms.filter fun x=>!decide (x = m)).length + 1 = ms.length
  | [],_,h=>by cases h
  | y :: ms,nd,h=>by
    rw [List.nodup_cons] at nd
    by_cases e:y = m
    · subst e
      have:(ms.filter fun x=>!decide (x = y)) = ms:=List.filter_eq_self.mpr fun x hx=>by
        have ne:¬ x = y:=fun z=>nd.1 (by rw [← z]; exact hx)
        rw [decide_eq_false ne]; rfl
      rw [List.filter_cons,decide_eq_true rfl,if_neg (by decide),this,List.length_cons]
    · rw [List.filter_cons,decide_eq_false e,if_pos (by decide),List.length_cons,List.length_cons,filt_ne nd.2 ((List.mem_cons.mp h).resolve_left fun z=>e z.symm)]
theorem OrdL.out {H0 H:Hp} {ps:List Addr} {os:List (List Str)} (h:OrdL H0 H ps os) {f:Addr} {o:HO} (hf:H0 f = some o):f ∉ ps:=fun z=>by
  obtain ⟨j,hj,e⟩:=List.getElem_of_mem z
  obtain ⟨x,_,h1,_⟩:=pd_at h (show ps[j]? = some f by rw [List.getElem?_eq_getElem hj,e])
  rw [hf] at h1
  cases h1
theorem OrdL.upd {H0 H:Hp} {ps:List Addr} {os:List (List Str)} (h:OrdL H0 H ps os) {f:Addr} {o:HO} (nf:f ∉ ps):OrdL H0 (L2.upd H f o) ps os:=by
  unfold OrdL at h ⊢
  refine pd_ext (pd_len h) fun j x y h1 h2=>?_
  obtain ⟨z,h3,h4,h5⟩:=pd_at h h1
  rw [h2] at h3
  cases h3
  have ne:x≠f:=fun e=>nf (by rw [← e]; exact List.mem_of_getElem? h1)
  exact ⟨h4,by rw [upd_ne ne]; exact h5⟩
end Sen
namespace Bdd
theorem child_lt {n:Nat} {rs:List Rm} (B:Bk n rs) {k i lo hi:Nat} (e:rs[k]? = some (some (i,lo,hi))) (hk:k < rs.length):lo < k∧hi < k:=by
  have z:2≤k:=by
    rcases Nat.lt_or_ge k 2 with z | z
    · exfalso
      rcases (by omega:k = 0∨k = 1) with z | z <;> subst z
      · rw [B.h0] at e; cases e
      · rw [B.h1] at e; cases e
    · exact z
  obtain ⟨i',lo',hi',e',_,a,b,_⟩:=B.rm k z hk
  rw [e] at e'
  cases e'
  exact ⟨a,b⟩
theorem Reach.le {n:Nat} {rs:List Rm} (B:Bk n rs) {k j:Nat} (h:Reach rs k j) (hk:k < rs.length):j≤k:=by
  induction h with
  | refl=>exact Nat.le_refl _
  | @lo k i lo hi j e h ih =>
    obtain ⟨l1,_⟩:=child_lt B e hk
    exact Nat.le_trans (ih (by omega)) (Nat.le_of_lt l1)
  | @hi k i lo hi j e h ih =>
    obtain ⟨_,l2⟩:=child_lt B e hk
    exact Nat.le_trans (ih (by omega)) (Nat.le_of_lt l2)
theorem below_list {n:Nat} {rs:List Rm} (B:Bk n rs) {k:Nat} (hk:k < rs.length) {ms:List Int} (h:IsBelow rs k ms):∃ ks:List Nat,ms = ks.map (fun (j:Nat)=>(j:Int))∧Sen.Rises rs ks∧ks[ks.length - 1]? = some k∧0 < ks.length:=by
  have nat:∀ x∈ms,∃ j:Nat,x = j∧Reach rs k j:=fun x hx=>(h.mem x).mp hx
  refine ⟨ms.map Int.toNat,?_,⟨?_,fun i j hj=>?_⟩,?_⟩
  · rw [List.map_map]
    exact (List.map_id ms).symm.trans (List.map_congr_left fun x hx=>by obtain ⟨j,e,_⟩:=nat x hx; rw [e]; rfl)
  · rw [List.Nodup,List.pairwise_map]
    refine List.Pairwise.imp_of_mem (fun {a b} ha hb hl e=>?_) h.up
    obtain ⟨j,e1,_⟩:=nat a ha
    obtain ⟨j',e2,_⟩:=nat b hb
    omega
  · rw [List.getElem?_map] at hj
    cases hm:ms[i]? with
    | none=>rw [hm] at hj; cases hj
    | some m =>
      rw [hm] at hj
      cases hj
      obtain ⟨j,rfl,rj⟩:=nat m (List.mem_of_getElem? hm)
      have jl:=rj.lt B hk
      refine ⟨jl,fun p lo hi e=>?_⟩
      have e:rs[j]? = some (some (p,lo,hi)):=e
      have ch:=child_lt B e jl
      have st:=rj.step e
      have go:∀ g:Nat,g < j→Reach rs k g→g∈(ms.map Int.toNat).take i:=fun g hg rg=>by
        have mem:(g:Int)∈ms:=(h.mem _).mpr ⟨g,rfl,rg⟩
        obtain ⟨t,ht,et⟩:=List.getElem_of_mem mem
        obtain ⟨hi',ei'⟩:=List.getElem?_eq_some_iff.mp hm
        have hit:t < i:=by
          rcases Nat.lt_or_ge t i with z | z
          · exact z
          · exfalso
            rcases Nat.lt_or_ge i t with y | y
            · have:=List.pairwise_iff_getElem.mp h.up i t hi' ht y
              rw [et,ei'] at this
              omega
            · have:t = i:=by omega
              subst this
              rw [et] at ei'
              omega
        refine List.mem_of_getElem? (i:=t) ?_
        rw [List.getElem?_take,if_pos hit,List.getElem?_map,List.getElem?_eq_getElem ht,et]
        rfl
      exact ⟨go lo ch.1 st.1,go hi ch.2 st.2⟩
  · have mem:(k:Int)∈ms:=(h.mem _).mpr ⟨k,rfl,.refl _⟩
    obtain ⟨t,ht,et⟩:=List.getElem_of_mem mem
    have last:t = ms.length - 1:=by
      rcases Nat.lt_or_ge t (ms.length - 1) with z | z
      · exfalso
        have:=List.pairwise_iff_getElem.mp h.up t (ms.length - 1) ht (by omega) z
        obtain ⟨j,e,rj⟩:=nat _ (List.getElem_mem (show ms.length - 1 < ms.length by omega))
        have jk:=rj.le B hk
        rw [et,e] at this
        omega
      · omega
    refine ⟨?_,by rw [List.length_map]; omega⟩
    rw [List.length_map,List.getElem?_map,← last,List.getElem?_eq_getElem ht,et]
    rfl
end Bdd
namespace Sen
open PySem L2 Bdd PyProof.Rows
def szO (os:List Str) (f:Row→Bool) (o:List Str):Nat:=mean os.length [(allR os.length).map fun r=>f (trn os o (rowL r))]
def PairO (os:List Str) (f:Row→Bool) (H0 H:Hp) (t:Addr) (o:List Str):Prop:=H0 t = none∧∃ p,H0 p = none∧H t = some (.tup [.ref p,.int (szO os f o:Nat)])∧H p = some (.lst (o.map V.str))
theorem PairO.mono {os:List Str} {f:Row→Bool} {H0 H H':Hp} {t:Addr} {o:List Str} (h:PairO os f H0 H t o) (g:Same H H'):PairO os f H0 H' t o:=⟨h.1,let ⟨p,a,b,c⟩:=h.2; ⟨p,a,g _ _ b,g _ _ c⟩⟩
inductive spAllSizes (C:Addr) (vs:List V) (H:Hp) (Q:VK) (E9:XK):Prop
  | mk (b:Addr) (os:List Str) (rs:List Rm) (F:Foot) (k:Nat) (_:vs = [.ref b,.int (k:Nat)]) (_:BookAt C H b os rs F) (_:k < rs.length) (_:os.length≤5) (_:∀ (l:Addr) (H':Hp) (ts:List Addr) (ss:List Str),Same H H'→H l = none→ss.Perm os→sortedS ss = true→H' l = some (.lst (ts.map V.ref))→Paired (PairO os (yes rs k) H H') ts (prm os.length ss)→Q (.ref l) H'):spAllSizes C vs H Q E9
theorem perm_ord {os ss:List Str} (ho:IsOrd os) (pm:ss.Perm os) {o:List Str} (h:o∈prm os.length ss):IsOrd o∧Marks os o∧o.length = os.length:=by
  have l:=prm_len _ _ o h
  obtain ⟨nd,sub⟩:=prm_sub _ _ o h
  have mem:∀ x,x∈os↔x∈o:=fun x=>by
    constructor
    · intro hx
      rcases Classical.em (x∈o) with z | z
      · exact z
      · exfalso
        have:=Bdd.sub_len (xs:=x :: o) (ys:=os) (List.nodup_cons.mpr ⟨z,nd⟩) fun y hy=>by
          rcases List.mem_cons.mp hy with e | hy
          · rw [e]; exact hx
          · exact pm.mem_iff.mp (sub y hy)
        rw [List.length_cons] at this
        omega
    · exact fun hx=>pm.mem_iff.mp (sub x hx)
  exact ⟨⟨nd,fun x hx=>ho.mem x ((mem x).mpr hx),by rw [l]; exact ho.pos⟩,⟨mem,l.symm⟩,l⟩
end Sen
namespace Sen
open PySem L2 Bdd PyProof.Rows
inductive spLawT (K:PySem.W.Frag) (Pt:Addr) (tb:HO) (vs:List V) (H:Hp) (Q:VK) (E9:XK):Prop
  | mk (a:Addr) (ns:List Int) (_:vs = [.ref a]) (_:SqL K H a (ns.map V.int)) (_:ns.length≤63) (_:H Pt = some tb) (_:∀ H',Q (.bl true) H'):spLawT K Pt tb vs H Q E9
def FstL (z:List Str→Nat) (xs:List (List Str)) (o:List Str):Prop:=∃ i:Nat,xs[i]? = some o∧∀ (j:Nat) o',xs[j]? = some o'→z o≤z o'∧(j < i→z o < z o')
theorem FstL.one {z:List Str→Nat} {xs:List (List Str)} {o o':List Str} (h:FstL z xs o) (h':FstL z xs o'):o = o':=by
  obtain ⟨i,e,b⟩:=h
  obtain ⟨j,e',b'⟩:=h'
  have a1:=b j o' e'
  have a2:=b' i o e
  have:i = j:=by
    rcases Nat.lt_trichotomy i j with y | y | y
    · have:=a2.2 y; omega
    · exact y
    · have:=a1.2 y; omega
  subst this
  rw [e] at e'
  exact Option.some.inj e'
theorem prm_pos:∀ (k:Nat) (ms:List Str),ms.Nodup→k≤ms.length→0 < (prm k ms).length
  | 0,_,_,_=>Nat.one_pos
  | k + 1,ms,nd,h=>by
    obtain ⟨m,hm⟩:∃ m,m∈ms:=by
      cases ms with
      | nil=>simp at h
      | cons m _=>exact ⟨m,List.mem_cons_self⟩
    have ln:=filt_ne nd hm
    have ih:=prm_pos k (ms.filter fun x=>!decide (x = m)) (nd.sublist List.filter_sublist) (by omega)
    obtain ⟨o,ho⟩:∃ o,o∈prm k (ms.filter fun x=>!decide (x = m)):=⟨_,List.getElem_mem ih⟩
    have:m :: o∈prm (k + 1) ms:=List.mem_flatMap.mpr ⟨m,hm,List.mem_map.mpr ⟨o,ho,rfl⟩⟩
    exact List.length_pos_of_mem this
inductive spBest (C Pt:Addr) (tb:HO) (vs:List V) (H:Hp) (Q:VK) (E9:XK):Prop
  | mk (b:Addr) (os:List Str) (rs:List Rm) (F:Foot) (k:Nat) (_:vs = [.ref b,.int (k:Nat)]) (_:BookAt C H b os rs F) (_:k < rs.length) (_:os.length≤5) (_:H Pt = some tb) (_:∀ (t p:Addr) (o ss:List Str) (H':Hp),Same H H'→ss.Perm os→sortedS ss = true→FstL (szO os (yes rs k)) (prm os.length ss) o→H t = none→H p = none→H' t = some (.tup [.ref p,.int (szO os (yes rs k) o:Nat)])→H' p = some (.lst (o.map V.str))→Q (.ref t) H'):spBest C Pt tb vs H Q E9
end Sen
namespace L2
open PySem PySem.Spec PyProof.Rows
def ExcO (h:Heap) (e:Addr) (cls:Value):Prop:=∃ oe vs,h.get? e = some oe∧oe.cls = cls∧oe.dict = none∧oe.data = .fields vs∧vs[2]? = some .none∧(vs[1]? = some .none∨∃ T oT ts,vs[1]? = some (.ref T)∧T≠e∧h.get? T = some oT∧oT.data = .fields ts∧ts[3]? = some .none)
structure LeftS (l:List Env) (e:Addr) (cls:Value) (h h':Heap):Prop where
  keep:∀ b o,h.get? b = some o→b ∉ frs l→b≠e→h'.get? b = some o
  slot:∀ b o,h.get? b = some o→b∈frs l→b≠e→∃ sl,h'.get? b = some { o with slots:=sl }
  exc:ExcO h' e cls
section
variable {M:Model} {A:Around} {E:Value→Shared→Prop} {s:Shared}
theorem dict_mapFields (f:Array Value→Array Value) (o:Obj):(Obj.mapFields f o).dict = o.dict:=by
  obtain ⟨c,dd,dt,sl⟩:=o
  cases dt <;> rfl
theorem newEntryS {base:Heap} {env:Env} {outer:List Env} {L e:Addr} {oe:Obj} {vs:Array Value} {head:Value} {hadNext:Bool} {Q:Unit→Shared→Prop} (hfr:A.frames = some (env :: outer)) (hl:s.heap.FunFrames base (env :: outer)) (hf:env.frame = some L)
    (he:s.heap.get? e = some oe) (hdn:oe.dict = none) (hd:oe.data = .fields vs) (h2:vs[2]? = some .none) (sz:1 < vs.size) (h:∀ h',LeftS (env :: outer) e oe.cls s.heap h'→Q () { s with heap:=h' }) :
    wpAny M A (do let a ← frameOf env; let pl ← entryPlaceOf L hadNext; let b ← EntryCells.newEntry head a .none (rawInt L) .none pl; setField (.ref e) 1 b) (fun _ s'=>wpAny M A (setFlight (.ref e) none) Q E s') E s:=by
  have ne:e ∉ frs (env :: outer):=fun hm=>by
    obtain ⟨_,o,ho,hnf⟩:=hl.mem hm
    rw [he] at ho; injection ho with ho; subst ho; exact hnf vs hd
  refine wpAny_bind (wpAny_frameOf_fun hfr hl hf fun h1 hs1=>wpAny_bind (wpAny_entryPlaceOf fun pl hpl=>?_))
  unfold EntryCells.newEntry newFields; refine wpAny_bind (wpAny_newObj_type ?_ (hpl.sizeOk5 _ _ _ _ _))
  have he1:h1.get? e = some oe:=(hs1.2.1 e ne).trans he
  have he2:=Heap.get?_push_of_some (h:=h1) { cls:=.type "traceback", dict:=none,data:=.fields ([head,.ref L,.none,rawInt L,.none] ++ (if pl.isEmpty then List.replicate 6 Value.none else pl)).toArray } he1
  refine wpAny_setField he2 hd sz ?_
  have nT:h1.objs.size≠e:=Nat.ne_of_gt (Heap.lt_size he1)
  have hd3:=Obj.data_mapFields hd (·.setIfInBounds 1 (Value.ref h1.objs.size))
  have he3:=Heap.get?_update_self (Obj.mapFields (·.setIfInBounds 1 (Value.ref h1.objs.size))) he2 (Obj.isFreed_of_fields hd3)
  have hT3:=(Heap.get?_update_other (h1.push { cls:=.type "traceback", dict:=none,data:=.fields ([head,.ref L,.none,rawInt L,.none] ++ (if pl.isEmpty then List.replicate 6 Value.none else pl)).toArray }) (Obj.mapFields (·.setIfInBounds 1 (Value.ref h1.objs.size))) (Ne.symm nT)).trans (Heap.get?_push_size h1 rfl)
  unfold setFlight; refine wpAny_bind (wpAny_field he3 hd3 (x:=.ref h1.objs.size) (by simp [sz]) ?_)
  rw [if_pos (show (Value.ref h1.objs.size != Value.none) = true from by simp)]
  refine wpAny_setField hT3 rfl (by simp only [List.size_toArray,List.length_append,List.length_cons,List.length_nil] <;> omega) (h _ ?_)
  have keep:∀ b o,b≠e→h1.get? b = some o→(((h1.push { cls:=.type "traceback", dict:=none,data:=.fields ([head,.ref L,.none,rawInt L,.none] ++ (if pl.isEmpty then List.replicate 6 Value.none else pl)).toArray }).update e (Obj.mapFields (·.setIfInBounds 1 (Value.ref h1.objs.size)))).update h1.objs.size (Obj.mapFields (·.setIfInBounds 3 ((none:Option Addr).elim Value.none fun f=>rawInt f)))).get? b = some o:=fun b o hbe hb=>by
    have hbT:h1.objs.size≠b:=Nat.ne_of_gt (Heap.lt_size hb)
    rw [Heap.get?_update_other _ _ hbT,Heap.get?_update_other _ _ (Ne.symm hbe)]; exact Heap.get?_push_of_some _ hb
  refine ⟨fun b o hb hnf hbe=>keep b o hbe ((hs1.2.1 b hnf).trans hb),fun b o hb _ hbe=>?_,?_⟩
  · obtain ⟨sl,hs⟩:=hs1.2.2 b o hb
    exact ⟨sl,keep b _ hbe hs⟩
  · refine ⟨_,_,?_,Obj.cls_mapFields _ _,(by rw [dict_mapFields]; exact hdn),hd3,(by rw [Array.getElem?_setIfInBounds_ne (by decide)]; exact h2),.inr ⟨h1.objs.size,_,_,by simp [sz],nT,Heap.get?_update_self _ hT3 (Obj.isFreed_of_fields (Obj.data_mapFields rfl _)),Obj.data_mapFields rfl _,by first | (simp; done) | (rcases hpl with rfl | ⟨_,_,_,_,_,_,_,rfl⟩ <;> simp)⟩⟩
    rw [Heap.get?_update_other _ _ nT]; exact he3
theorem note_s {base:Heap} {env:Env} {outer:List Env} {L e:Addr} {cls:Value} {Q:Unit→Shared→Prop} (hfr:A.frames = some (env :: outer)) (hl:s.heap.FunFrames base (env :: outer)) (hf:env.frame = some L) (hx:ExcO s.heap e cls)
    (h:∀ h',LeftS (env :: outer) e cls s.heap h'→Q () { s with heap:=h' }):wpAny M A (noteFrame (.ref e) env) (fun _ s1=>wpAny M A (setFlight (.ref e) none) Q E s1) E s:=by
  obtain ⟨oe,vs,he,rfl,hdn,hd,h2,h1 | ⟨T,oT,ts,h1,nT,hT,hdT,h3⟩⟩:=hx
  · unfold noteFrame
    simp only [hf]; refine wpAny_bind (wpAny_field he hd h1 ?_)
    rw [if_neg (by decide)]
    exact newEntryS hfr hl hf he hdn hd h2 (Array.getElem?_eq_some_iff.mp h1).1 h
  · unfold noteFrame
    simp only [hf]; refine wpAny_bind (wpAny_field he hd h1 ?_)
    rw [if_pos (show (Value.ref T != Value.none) = true from by simp)]; refine wpAny_bind (wpAny_field hT hdT h3 ?_)
    rw [if_neg (show ¬ ((Value.none == rawInt L) = true) from by simp [rawInt])]; refine wpAny_bind (wpAny_setField hT hdT (Array.getElem?_eq_some_iff.mp h3).1 ?_)
    have same:∀ b,(s.heap.update T (Obj.mapFields (·.setIfInBounds 3 Value.none))).get? b = s.heap.get? b:=fun b=>by
      by_cases z:b = T
      · subst z
        rw [Heap.get?_update_self _ hT (Obj.isFreed_of_fields (Obj.data_mapFields hdT _)),hT]
        have et:ts.setIfInBounds 3 Value.none = ts:=by
          obtain ⟨q1,q2⟩:=Array.getElem?_eq_some_iff.mp h3
          rw [Array.setIfInBounds,dif_pos q1]
          rw [← q2]
          exact Array.set_getElem_self ..
        obtain ⟨c,dd,dt,sl⟩:=oT
        cases hdT
        show some _ = some _
        refine congrArg some ?_
        show Obj.mapFields _ _ = _
        simp only [Obj.mapFields,et]
      · exact Heap.get?_update_other _ _ (Ne.symm z)
    refine newEntryS (base:=base) (s:={ s with heap:=s.heap.update T (Obj.mapFields (·.setIfInBounds 3 Value.none)) }) hfr (hl.of_keeps fun b o hb hnf=>⟨o,(same b).trans hb,rfl⟩) hf ((same e).trans he) hdn hd h2 (Array.getElem?_eq_some_iff.mp h1).1 fun h' x=>h h' ⟨fun b o hb=>x.keep b o ((same b).trans hb),fun b o hb=>x.slot b o ((same b).trans hb),x.exc⟩
theorem leave_s {base:Heap} {env:Env} {outer:List Env} {L e:Addr} {cls:Value} {Q:Unit→Shared→Prop} (hfr:A.frames = some (env :: outer)) (hl:s.heap.FunFrames base (env :: outer)) (hf:env.frame = some L) (hx:ExcO s.heap e cls)
    (h:∀ h',LeftS (env :: outer) e cls s.heap h'→Q () { s with heap:=h' }):wpAny M A (leaving env (.ref e)) Q E s:=by
  unfold leaving
  exact wpAny_bind (note_s hfr hl hf hx h)
theorem land_s {e:Addr} {cls:Value} {Q:Unit→Shared→Prop} (hx:ExcO s.heap e cls) (h:∀ h',(∀ b,h'.get? b = s.heap.get? b)→Q () { s with heap:=h' }):wpAny M A (setFlight (.ref e) none) Q E s:=by
  obtain ⟨oe,vs,he,rfl,hdn,hd,h2,h1 | ⟨T,oT,ts,h1,nT,hT,hdT,h3⟩⟩:=hx
  · unfold setFlight
    refine wpAny_bind (wpAny_field he hd h1 ?_)
    rw [if_neg (by decide)]
    exact wpAny_pure (h s.heap fun _=>rfl)
  · unfold setFlight
    refine wpAny_bind (wpAny_field he hd h1 ?_)
    rw [if_pos (show (Value.ref T != Value.none) = true from by simp)]
    refine wpAny_setField hT hdT (Array.getElem?_eq_some_iff.mp h3).1 (h _ fun b=>?_)
    by_cases z:b = T
    · subst z
      rw [Heap.get?_update_self _ hT (Obj.isFreed_of_fields (Obj.data_mapFields hdT _)),hT]
      have et:ts.setIfInBounds 3 Value.none = ts:=by
        obtain ⟨q1,q2⟩:=Array.getElem?_eq_some_iff.mp h3
        rw [Array.setIfInBounds,dif_pos q1]
        rw [← q2]
        exact Array.set_getElem_self ..
      obtain ⟨c,dd,dt,sl⟩:=oT
      cases hdT
      refine congrArg some ?_
      show Obj.mapFields _ _ = _
      simp only [Obj.mapFields,Option.elim,et]
    · exact Heap.get?_update_other _ _ (Ne.symm z)
theorem ExcO.same {h h':Heap} {e:Addr} {cls:Value} (x:ExcO h e cls) (k:∀ b,h'.get? b = h.get? b):ExcO h' e cls:=by
  obtain ⟨oe,vs,he,hc,hdn,hd,h2,h1 | ⟨T,oT,ts,h1,nT,hT,hdT,h3⟩⟩:=x
  · exact ⟨oe,vs,(k e).trans he,hc,hdn,hd,h2,.inl h1⟩
  · exact ⟨oe,vs,(k e).trans he,hc,hdn,hd,h2,.inr ⟨T,oT,ts,h1,nT,(k T).trans hT,hdT,h3⟩⟩
end
theorem Inv.fresh0 {X:Cx} {pins:List (Addr × Obj)} {σ:St} {H:Hp} {s:Shared} {a:Addr} (I:Inv X pins σ H s) (hex:X.ex = []) (hn:s.heap.get? a = none):X.s₀.heap.get? a = none:=by
  cases q:X.s₀.heap.get? a with
  | none=>rfl
  | some o =>
    obtain ⟨o',e⟩:=I.base.there a o q (by rw [hex]; simp)
    rw [hn] at e; cases e
def CXE (P:Program) (w:World):CXT:=fun outer H s E e s'=>∃ (a:Addr) (cls:Value) (H':Hp),e = .ref a∧s'.os = s.os∧AllBare s'.gens∧Un (frs outer) [] H H' s.heap s'.heap∧HOk P w H' s'.heap∧s.heap.get? a = none∧H' a = none∧ExcO s'.heap a cls∧E cls none H'
section
variable {P:Program} {w:World} {K:PySem.W.Frag} {mg:Str→Option Value} {base:Heap} {N:List Str} {qual:Str} {scope:Scope} {f:Addr} {cd:Value} {A:Around} {outer:List Env} {s0:Shared} {H0:Hp} {E:XK}
theorem xe_of {pins:List (Addr × Obj)} {σ:St} {H:Hp} {s:Shared} {a:Addr} {cls:Value} (I:Inv (cxOf (CXE P w) P w K mg base N qual scope f cd A outer s0 H0 E) pins σ H s) (hx:ExcO s.heap a cls) (ha:s0.heap.get? a = none) (hn:H a = none) (hE:E cls none H) :
    (cxOf (CXE P w) P w K mg base N qual scope f cd A outer s0 H0 E).xe (.ref a) s:=by
  show wpAny (model P w) (A.deeper (envOfC qual scope s0.heap.objs.size f cd)) (leaving (envOfC qual scope s0.heap.objs.size f cd) (.ref a)) _ _ s
  refine leave_s (base:=base) (outer:=outer) (L:=s0.heap.objs.size) I.ok.frames I.stack rfl hx fun h' lf=>?_
  have fr:∀ b,b∈frs (envOfC qual scope s0.heap.objs.size f cd :: outer)→b = s0.heap.objs.size∨b∈frs outer:=fun b hb=>List.mem_cons.mp hb
  have nfr:∀ b,b < s0.heap.objs.size→b ∉ frs outer→b ∉ frs (envOfC qual scope s0.heap.objs.size f cd :: outer):=fun b hb hn z=>(fr b z).elim (Nat.ne_of_lt hb) hn
  have trk:∀ b u,H b = some u→b ∉ frs (envOfC qual scope s0.heap.objs.size f cd :: outer)∧b≠a:=fun b u e=>⟨(fun z=>by rw [I.stkFree b z] at e; cases e),(fun z=>by rw [z,hn] at e; cases e)⟩
  refine ⟨a,cls,H,rfl,I.os,I.bare,⟨fun b o q n hb hx=>?_,fun b o q n hb hx=>?_,I.base.free,fun b o q hx=>?_,I.base.tups,I.base.frzs,I.base.tbls⟩,fun b u e=>?_,ha,hn,lf.exc,hE⟩
  · exact lf.keep b o (I.base.keep b o q n hb hx) (nfr b (Heap.lt_size q) hb) (fun z=>by rw [z,ha] at q; cases q)
  · obtain ⟨sl,e1⟩:=I.base.slot b o q n hb hx
    obtain ⟨sl2,e2⟩:=lf.slot b _ e1 (List.mem_cons_of_mem _ hb) (fun z=>by rw [z,ha] at q; cases q)
    exact ⟨sl2,e2⟩
  · obtain ⟨o',e1⟩:=I.base.there b o q hx
    have ne:b≠a:=fun z=>by rw [z,ha] at q; cases q
    by_cases z:b∈frs (envOfC qual scope s0.heap.objs.size f cd :: outer)
    · obtain ⟨sl,e2⟩:=lf.slot b o' e1 z ne
      exact ⟨_,e2⟩
    · exact ⟨_,lf.keep b o' e1 z ne⟩
  · refine (I.hok b u e).stay (fun c v hc q=>?_) (fun c q=>q) fun c xs q=>q
    rcases hc with rfl | hc
    · exact lf.keep _ v q (trk _ u e).1 (trk _ u e).2
    · exact lf.keep _ v q (trk _ _ hc).1 (trk _ _ hc).2
theorem passE:Passes (CXE P w) (cxOf (CXE P w) P w K mg base N qual scope f cd A outer s0 H0 E) E:=by
  intro pins σ H s e s' I h
  obtain ⟨a,cls,H',rfl,os,bare,un,hok,ha,hn,hx,hE⟩:=h
  have I':=I.call' (s':=s') (ch:=[]) os un hok bare (fun b z=>absurd z (by simp))
  exact xe_of I' hx (I.fresh0 rfl ha) hn hE
end
theorem FnOk.lift {P:Program} {w:World} {K:PySem.W.Frag} {mg:Str→Option Value} {base:Heap} {CX:CXT} {k:Nat} {f:Addr} {fd:FuncData} {ps:List Str} {sp:Sp} (F:FnOk P w K mg base CX0 k f fd ps sp):FnOk P w K mg base CX k f fd ps sp :=
  ⟨F.len,fun A outer s H args us vs Q E hr e0 hb r h=>codeAny_mono (F.run A outer s H args us vs Q E hr e0 hb r h) fun r s' hq=>by
    cases r with
    | error e=>exact hq.elim
    | ok fl =>
      cases fl with
      | ret u=>exact hq
      | next=>exact hq
      | brk=>exact hq
      | cont=>exact hq⟩
theorem FnOk.orE {P:Program} {w:World} {K:PySem.W.Frag} {mg:Str→Option Value} {base:Heap} {CX:CXT} {k:Nat} {f:Addr} {fd:FuncData} {ps:List Str} {sp sp':Sp} (F:FnOk P w K mg base CX k f fd ps sp) (G:FnOk P w K mg base CX k f fd ps sp'):FnOk P w K mg base CX k f fd ps (fun vs H Q E=>sp vs H Q E∨sp' vs H Q E) :=
  ⟨fun vs H Q E h=>h.elim (F.len vs H Q E) (G.len vs H Q E),fun A outer s H args us vs Q E hr e0 hb r h=>h.elim (F.run A outer s H args us vs Q E hr e0 hb r) (G.run A outer s H args us vs Q E hr e0 hb r)⟩
section
variable {P:Program} {w:World} {K:PySem.W.Frag} {mg:Str→Option Value} {base:Heap}
theorem Fun.okE {x qual:Str} {st:Stmt} {f:Addr} {fd:FuncData} {N ps:List Str} {k:Nat} {sp:Sp} (F:Fun K x qual st f fd) (S:FnScope N ps (defScope st)) (len:∀ vs H Q E,sp vs H Q E→vs.length = ps.length)
    (hbody:∀ (cdv:Value) (A:Around) (outer:List Env) (s:Shared) (H:Hp) (vs:List V) (Q:VK) (E:XK),Room k (A.deeper (envOfC qual (defScope st) s.heap.objs.size f cdv))→sp vs H Q E →
      ∃ t,PSs (cxOf (CXE P w) P w K mg base N qual (defScope st) f cdv A outer s H E) (defBody st) t∧t { nx:=fun _ H'=>Q .non H',rt:=Q } (start N vs) H):FnOk P w K mg base (CXE P w) (k + 1) f fd ps sp:=by
  obtain ⟨oc,od,kV,doc,pm,an,cdv,ct,osl,rfl,lk,hcd⟩:=F.ex
  exact fn_of lk hcd S len fun A outer s H vs Q E hr hsp=>hbody cdv A outer s H vs Q E hr hsp
end
end L2
namespace Sen
open PySem L2 Bdd
theorem LedH.rise {C:Addr} {H0:Hp} {b:Addr} {os:List Str} {m n:Nat} {H:Hp} {rs:List Rm} {F:Foot} (h:LedH C H0 b os m H rs F) {H':Hp} {rs':List Rm} (aw:Away F H H') (hB:BookAt C H' b os rs' F) (hh:hiN os.length rs'≤hiN os.length rs + n):LedH C H0 b os (m + n) H' rs' F :=
  ⟨fun x o e=>aw x o (h.same _ _ e) fun z=>(by have:=h.away x z; rw [this] at e; cases e),h.away,hB,Nat.le_trans hh (Nat.add_le_add_right h.hi _)⟩
end Sen
namespace L2
open PySem
section
variable {K:PySem.W.Frag} {σ:St} {js:List Nat} {tt:TT} {te:TE} {H:Hp} {Qf:Addr→Hp→List V→Prop}
open Sen
theorem lc_listC {a:Addr} {xs:List V} (Pv:Nat→List V→Hp→Prop) (h0:Pv 0 [] H) (hz:xs.length≤sizeLine)
    (hl:∀ i ys H,i≤xs.length→Pv i ys H→SqL K H a xs∧ys.length≤i)
    (hs:∀ i x ys H (Q:V→Hp→Prop),xs[i]? = some x→Pv i ys H→(∀ v H3,Pv (i + 1) (ys ++ [v]) H3→Q v H3)→te (lcS σ js (some x)) H Q)
    (hd:∀ ys H p,Pv xs.length ys H→H p = none→Qf p H ys) :
    ∃ W:Nat→Nat→List V→Hp→Prop,(∃ m,W 0 m [] H)∧∀ i m ys H,W i m ys H →
      ((Itl K a).stop i H∧∀ p,H p = none→Qf p H ys) ∨
      ((Itl K a).go i H∧ys.length < sizeLine∧∀ x H',(Itl K a).yld i H x H'→tYes (lcS σ js (some x)) H' fun b H2 =>
        if b = true then te (lcS σ js (some x)) H2 fun v H3=>∃ m',m' < m∧W (i + 1) m' (ys ++ [v]) H3 else ∃ m',m' < m∧W (i + 1) m' ys H2):=by
  refine ⟨fun i m ys H=>m = xs.length - i∧i≤xs.length∧Pv i ys H,⟨xs.length,by simp,Nat.zero_le _,h0⟩,?_⟩
  rintro i m ys H ⟨rfl,hi,p⟩
  obtain ⟨q,hy⟩:=hl i ys H hi p
  by_cases hlt:i < xs.length
  · refine .inr ⟨⟨xs,xs[i],q,by simp [hlt]⟩,by omega,fun x H' y=>?_⟩
    obtain ⟨e,y⟩:=y
    subst e
    show te (lcS σ js (some x)) H' fun v H3=>∃ m',m' < xs.length - i∧(m' = xs.length - (i + 1)∧i + 1≤xs.length∧Pv (i + 1) (ys ++ [v]) H3)
    exact hs i x ys _ _ (y xs q) p fun v H3 h3=>⟨_,Nat.sub_lt_sub_left hlt (Nat.lt_succ_self i),rfl,hlt,h3⟩
  · have e:i = xs.length:=by omega
    subst e
    exact .inl ⟨⟨xs,q,Nat.le_refl _⟩,fun pp hp=>hd ys H pp p hp⟩
end
end L2
namespace Sen
open PySem L2 Bdd
theorem LedH.made {C:Addr} {H0 H':Hp} {bk dx:Addr} {os:List Str} {F:Foot} {o1 o2:HO} (hbk:H0 bk = none) (hdx:H0 dx = none) (hne:dx≠bk) (keep:∀ x o,upd (upd H0 dx o1) bk o2 x = some o→x≠bk→H' x = some o)
    (hB:BookAt C H' bk os [none,none] F) (hF:∀ x,F x→x = bk∨x = dx∨upd (upd H0 dx o1) bk o2 x = none):LedH C H0 bk os 0 H' [none,none] F:=by
  refine ⟨fun x o e=>keep x o (by rw [upd_ne (ne_of_none e hbk),upd_ne (ne_of_none e hdx)]; exact e) (ne_of_none e hbk),fun x hx=>?_,hB,Nat.le_refl _⟩
  rcases hF x hx with z | z | z
  · rw [z]; exact hbk
  · rw [z]; exact hdx
  · by_cases e1:x = bk
    · rw [e1] at z; rw [upd_same] at z; cases z
    · by_cases e2:x = dx
      · rw [e2,upd_ne hne,upd_same] at z; cases z
      · rw [upd_ne e1,upd_ne e2] at z; exact z
end Sen
namespace L2
open PySem PySem.Spec PyProof.Rows
structure XCls (K:PySem.W.Frag) (D:Addr):Prop where
  ga:PySem.W.findIn K (.ref D) "__getattribute__" = some (some (.builtin "BaseException.__getattribute__"))
  gt:PySem.W.findIn K (.ref D) "__getattr__" = some none
  ca:PySem.W.findIn K (.ref D) "__class__" = some (some (.builtin "object.__class__"))
  bx:PySem.W.mroIn K D (.type "BaseException") = some true
  ob:PySem.W.mroIn K D (.type "object") = some true
  cl:(PySem.W.clsIn K D).isSome = true
theorem slot_bexc_ga:Slot "BaseException" "__getattribute__" "BaseException.__getattribute__" :=
  .of (owner := "BaseException") (n := "__getattribute__") (by rw [typeLookup_type,builtinLookup_eq_fast]; kernel_rfl) (by decide +kernel) (by decide +kernel) (by decide +kernel)
    (by first | exact .inl (by decide +kernel) | exact .inr (by decide +kernel)) (by rw [isSubtype_type]; kernel_rfl)
section
variable {prog:Program} {w:World} {A:Around} {E:Value→Shared→Prop} {h:Heap} {g:Array GenState} {d:Drawn} {t:Nat} {os:OsState} {a D:Addr} {o:Obj} {K:PySem.W.Frag}
theorem class_entry_exc {tk:Tok} {Q:Fin→Shared→Prop} (X:K.In h) (c:XCls K D) (I:PySem.W.InstAt h a o D none) (hq:Q (.done (.ret (.ref D))) ⟨h,g,d,t,os⟩) :
    wpAny (model prog w) A (Builtin.«object.__getattribute__» ⟨[.ref a,.str "__class__" tk],[]⟩) Q E ⟨h,g,d,t,os⟩:=by
  have hT5:(⟨h,g,d,t,os⟩:Shared).TypeIs (.builtin "object.__class__") "getset_descriptor" := F.typeOf_object_class
  have f5:=F.typeOf_object_class
  have f6:=F.slot_gs_get.lookup
  have f7:=F.slot_gs_set.lookup
  have hx:=I.at_
  have hc:=I.cls
  have L1:=PySem.W.looks_findIn (M:=model prog w) X c.ca
  repeat (any_goals (first | assumption | (with_reducible refine wpAny_loadPart_at hx ?_; rw [hc]) | with_reducible refine L1.at ?_ | wp_step))
  refine PySem.W.class_get (s:=⟨h,g,d,t,os⟩) X I c.ob ?_
  repeat (any_goals (first | assumption | wp_step))
theorem check_ga_exc {M:Model} {nameV:Value} {Q:Unit→Shared→Prop} (X:K.In h) (c:XCls K D) (I:PySem.W.InstAt h a o D none) (hq:Q () ⟨h,g,d,t,os⟩):wpAny M A (checkBuiltinCall "BaseException.__getattribute__" ⟨[.ref a,nameV],[]⟩) Q E ⟨h,g,d,t,os⟩:=by
  have hk:builtinKind "BaseException.__getattribute__" = some .slot:=by decide +kernel
  have hsplit:splitId "BaseException.__getattribute__" = some ("BaseException", "__getattribute__"):=by decide +kernel
  have ha:=F.args_bexc_ga (.ref a) nameV
  have hx:=I.at_
  have hc:=I.cls
  have L1:=PySem.W.looks_mroIn (M:=M) X c.bx
  simp only [checkBuiltinCall,hk,hsplit]
  refine wpAny_bind ?_
  · unfold isInstance
    repeat (first | (with_reducible refine wpAny_loadPart_at hx ?_; rw [hc]) | with_reducible refine L1.at ?_ | wp_step)
    exact hq
theorem class_call_exc {tk:Tok} {R:Result→Shared→Prop} (X:K.In h) (c:XCls K D) (I:PySem.W.InstAt h a o D none) (hq:R (.ok (.ret (.ref D))) ⟨h,g,d,t,os⟩) :
    codeAny (model prog w) A (.call (.builtin "BaseException.__getattribute__") ⟨[.ref a,.str "__class__" tk],[]⟩) R ⟨h,g,d,t,os⟩ :=
  codeAny_call_builtin slot_bexc_ga.plain F.entry_bexc_ga (check_ga_exc X c I (class_entry_exc X c I hq))
theorem class_by_exc {tk:Tok} {Q:Value→Shared→Prop} (X:K.In h) (c:XCls K D) (I:PySem.W.InstAt h a o D none) (hq:Q (.ref D) ⟨h,g,d,t,os⟩):wpAny (model prog w) A (getAttrBy (.ref a) (.str "__class__" tk) false) Q E ⟨h,g,d,t,os⟩:=by
  have f3:=slot_bexc_ga.bind (.ref a)
  have hx2:(Value.builtin "BaseException.__getattribute__" == Value.builtin "object.__getattribute__") = false:=by decide +kernel
  have hx1:(onTheHeap (Value.ref D) && Value.builtin "BaseException.__getattribute__" == Value.builtin "object.__getattribute__") = false:=by rw [hx2]; rfl
  have hx:=I.at_
  have hc:=I.cls
  have L1:=PySem.W.looks_findIn (M:=model prog w) X c.ga
  have L2:=PySem.W.looks_findIn (M:=model prog w) X c.gt
  repeat (any_goals (first | assumption | (with_reducible refine wpAny_loadPart_at hx ?_; rw [hc]) | with_reducible refine L1.at ?_ | with_reducible refine L2.at ?_ | wp_step))
  refine class_call_exc X c I ?_
  repeat (any_goals (first | assumption | wp_step))
theorem class_attr_exc {Q:Option Value→Shared→Prop} (X:K.In h) (c:XCls K D) (I:PySem.W.InstAt h a o D none) (hq:Q (some (.ref D)) ⟨h,g,d,t + 1,os⟩):wpAny (model prog w) A (getAttr? (.ref a) "__class__") Q E ⟨h,g,d,t,os⟩:=by
  unfold getAttr? getAttrBy?
  repeat (any_goals (first | assumption | with_reducible apply class_by_exc X c I | wp_step))
end
theorem kitx_exc {K:PySem.W.Frag} {a D:Addr} (c:XCls K D):PySem.W.KitX K (.ref a) (.ref D) (fun h=>∃ o,PySem.W.InstAt h a o D none) where
  ty:=fun _ _ _ ⟨_,I⟩=>I.type
  it:=fun _ _ X _=>by
    obtain ⟨cdD,hcD⟩:=Option.isSome_iff_exists.mp c.cl
    unfold PySem.W.clsIn at hcD
    split at hcD
    · rename_i c' d' cd' sl' ho
      intro A' Q' E' s' k q
      unfold isType loadHead
      exact wpAny_bind (wpAny_loadPart (k _ _ (X _ _ ho)) (wpAny_pure q))
    · cases hcD
  ne:=fun h tp dd its n sl X htp=>by
    obtain ⟨cdD,hcD⟩:=Option.isSome_iff_exists.mp c.cl
    refine Bool.eq_false_iff.mpr fun q=>?_
    have e:D = tp:=Value.ref.inj (beq_iff_eq.mp q)
    subst e
    unfold PySem.W.clsIn at hcD
    split at hcD
    · rename_i c' d' cd' sl' ho
      have z:=(X _ _ ho).symm.trans htp
      cases z
    · cases hcD
  ca:=fun {_ _ _ _ _ s} X ⟨o,I⟩ k=>by
    obtain ⟨h,g,d,t,os⟩:=s
    exact class_attr_exc X c I k
end L2
namespace L2
open PySem PySem.Spec PyProof.Rows
def excO (a D:Addr):HO:=.ext fun h=>∃ o vs,PySem.W.InstAt h a o D none∧o.data = .fields vs∧vs[2]? = some .none
theorem InstAt.none_ {h:Heap} {a D:Addr} {o:Obj} (e:h.get? a = some o) (hc:o.cls = .ref D) (hd:o.dict = none) (hn:PySem.W.notCls o = true):PySem.W.InstAt h a o D none :=
  ⟨e,hc,hn,by rw [hd]; trivial⟩
theorem excO_ok {P:Program} {w:World} {H:Hp} {h:Heap} {a D:Addr} (hx:ExcO h a (.ref D)):ObjOk P w H h a (excO a D):=by
  obtain ⟨oe,vs,he,hc,hdn,hd,h2,_⟩:=hx
  refine ⟨⟨oe,vs,InstAt.none_ he hc hdn ?_,hd,h2⟩,⟨_,he⟩,fun h1 h2 ⟨o,vs,I,q1,q2⟩ k=>⟨o,vs,⟨k o I.at_,I.cls,I.no,?_⟩,q1,q2⟩⟩
  · obtain ⟨c,dd,dt,sl⟩:=oe
    cases hd
    rfl
  · have:=I.dict
    revert this
    cases o.dict <;> exact fun z=>z
theorem Rd.exc {P:Program} {w:World} {H:Hp} {h:Heap} {a D:Addr} (ok:HOk P w H h) (e:H a = some (excO a D)):∃ o vs,PySem.W.InstAt h a o D none∧o.data = .fields vs∧vs[2]? = some .none:=(ok a _ e).1
structure Fly (X:Cx) (pins:List (Addr × Obj)) (H:Hp) (s:Shared) (a:Addr) (cls:Value):Prop where
  exc:ExcO s.heap a cls
  hn:H a = none
  s0:X.s₀.heap.get? a = none
  loc:a≠X.env.locals
  cell:∀ x c,X.env.cells.lookup x = some c→c≠a
  pin:∀ p∈X.pn ++ pins,p.1≠a
  st:a ∉ frs X.stack
section
variable {X:Cx} {pins:List (Addr × Obj)} {σ:St} {H H':Hp} {s s':Shared} {a:Addr} {cls:Value}
theorem Inv.fly (I:Inv X pins σ H s) (hex:X.ex = []) (hn:s.heap.get? a = none) (hn':H' a = none) (hx:ExcO s'.heap a cls):Fly X pins H' s' a cls where
  exc:=hx
  hn:=hn'
  s0:=I.fresh0 hex hn
  loc:=fun z=>by
    obtain ⟨m,⟨o,_,_,ho,_⟩,_⟩:=I.loc
    rw [← z,hn] at ho; cases ho
  cell:=fun x c e z=>by
    obtain ⟨v,o,ho,_⟩:=I.cell x c e
    rw [z,hn] at ho; cases ho
  pin:=fun p hp z=>by
    have:=(I.pin p hp).1
    rw [z,hn] at this; cases this
  st:=fun z=>by
    obtain ⟨_,o,ho,_⟩:=I.stack.mem z
    rw [hn] at ho; cases ho
theorem Inv.left {h':Heap} (I:Inv X pins σ H s) (f:Fly X pins H s a cls) (lf:LeftS X.stack a cls s.heap h'):Inv X pins σ H { s with heap:=h' }:=by
  have nst:∀ b,b≠X.env.locals→b ∉ X.fs→b ∉ frs X.stack:=fun b h1 h2 z=>(List.mem_cons.mp (I.stkSub b z)).elim h1 h2
  have upto:∀ b o,s.heap.get? b = some o→b≠a→∃ sl,h'.get? b = some { o with slots:=sl }:=fun b o e ne=>by
    by_cases z:b∈frs X.stack
    · exact lf.slot b o e z ne
    · exact ⟨o.slots,lf.keep b o e z ne⟩
  have cellK:∀ x c,X.env.cells.lookup x = some c→∀ v,s.heap.IsCell c v→h'.IsCell c v:=fun x c e v ⟨o,ho,hd⟩=>by
    obtain ⟨sl,q⟩:=upto c o ho (f.cell x c e)
    exact ⟨_,q,hd⟩
  have ne0:∀ b o,X.s₀.heap.get? b = some o→b≠a:=fun b o e z=>by rw [z,f.s0] at e; cases e
  refine ⟨I.ok,I.os,I.bare,⟨fun b o e n hb hx=>?_,fun b o e n hb hx=>?_,I.base.free,fun b o e hx=>?_,I.base.tups,I.base.frzs,I.base.tbls⟩,?_,fun x c e=>?_,I.free,I.freeC,fun p hp=>?_,fun b u e=>?_,I.len⟩
  · exact lf.keep b o (I.base.keep b o e n hb hx) (nst b (Nat.ne_of_lt (Nat.lt_of_lt_of_le (Heap.lt_size e) I.ok.above)) hb) (ne0 b o e)
  · obtain ⟨sl,e1⟩:=I.base.slot b o e n hb hx
    obtain ⟨sl2,e2⟩:=upto b _ e1 (ne0 b o e)
    exact ⟨sl2,e2⟩
  · obtain ⟨o',e1⟩:=I.base.there b o e hx
    obtain ⟨sl2,e2⟩:=upto b _ e1 (ne0 b o e)
    exact ⟨_,e2⟩
  · obtain ⟨m,⟨o,es,ep,ho,r⟩,hl⟩:=I.loc
    obtain ⟨sl,q⟩:=upto _ o ho (Ne.symm f.loc)
    refine ⟨m,⟨_,es,ep,q,r⟩,fun i x v e1 e2 e3=>?_⟩
    obtain ⟨u,r,l⟩:=hl i x v e1 e2 e3
    refine ⟨u,r,?_⟩
    rcases l with l | ⟨k,c,e,z⟩
    · exact .inl l
    · exact .inr ⟨k,c,e,cellK x c e _ z⟩
  · obtain ⟨v,z⟩:=I.cell x c e
    exact ⟨v,cellK x c e v z⟩
  · obtain ⟨e,n,ne,nf,d⟩:=I.pin p hp
    exact ⟨lf.keep p.1 p.2 e (nst p.1 ne nf) (f.pin p hp),n,ne,nf,d⟩
  · have tr:∀ b u,H b = some u→b ∉ frs X.stack∧b≠a:=fun b u e=>⟨(fun z=>by rw [I.stkFree b z] at e; cases e),(fun z=>by rw [z,f.hn] at e; cases e)⟩
    refine (I.hok b u e).stay (fun c v hc q=>?_) (fun c q=>q) fun c xs q=>q
    rcases hc with rfl | hc
    · exact lf.keep _ v q (tr _ u e).1 (tr _ u e).2
    · exact lf.keep _ v q (tr _ _ hc).1 (tr _ _ hc).2
theorem Inv.trackX {D:Addr} (I:Inv X pins σ H s) (f:Fly X pins H s a (.ref D)):Inv X pins σ (upd H a (excO a D)) s:=by
  have ne0:∀ b o,X.s₀.heap.get? b = some o→b≠a:=fun b o e z=>by rw [z,f.s0] at e; cases e
  have neH:∀ b u,H b = some u→b≠a:=fun b u e z=>by rw [z,f.hn] at e; cases e
  refine ⟨I.ok,I.os,I.bare,⟨I.base.keep,I.base.slot,fun b o e n hx=>?_,I.base.there,fun b xs e=>?_,fun b o u e=>?_,fun b ps e=>?_⟩,I.loc,I.cell,?_,fun x c e=>?_,fun p hp=>?_,fun b u e=>?_,I.len⟩
  · rw [upd_ne (ne0 b o e)]; exact I.base.free b o e n hx
  · have:=I.base.tups b xs e
    rw [upd_ne (neH b _ this)]; exact this
  · have:=I.base.frzs b o u e
    rw [upd_ne (neH b _ this)]; exact this
  · obtain ⟨m,this⟩:=I.base.tbls b ps e
    exact ⟨m,by rw [upd_ne (neH b _ this)]; exact this⟩
  · rw [upd_ne (Ne.symm f.loc)]; exact I.free
  · rw [upd_ne (f.cell x c e)]; exact I.freeC x c e
  · obtain ⟨e,n,ne,nf,d⟩:=I.pin p hp
    exact ⟨e,by rw [upd_ne (f.pin p hp)]; exact n,ne,nf,d⟩
  · by_cases z:b = a
    · subst z
      rw [upd_same] at e; cases e
      exact excO_ok f.exc
    · rw [upd_ne z] at e
      refine (I.hok b u e).stay (fun c v _ q=>q) (fun c q=>?_) (fun c xs q=>?_) fun c ob v q=>?_
      · rw [upd_ne (neH c _ q)]; exact q
      · rw [upd_ne (neH c _ q)]; exact q
      · rw [upd_ne (neH c _ q)]; exact q
end
abbrev XR:=Value→St→Hp→Prop
def XP (X:Cx) (pins:List (Addr × Obj)) (R:XR) (e:Value) (s':Shared):Prop:=∃ a cls σ H',e = .ref a∧Inv X pins σ H' s'∧Fly X pins H' s' a cls∧R cls σ H'
abbrev TEx:=St→Hp→VK→(Value→Hp→Prop)→Prop
abbrev TSx:=Ends→XR→St→Hp→Prop
def PEx (X:Cx) (e:Expr) (t:TEx):Prop :=
  ∀ (pins:List (Addr × Obj)) (s:Shared) (σ:St) (H:Hp) (Q:VK) (R:Value→Hp→Prop),Inv X pins σ H s→t σ H Q R→wpAny (model X.prog X.w) X.A (eval e X.env) (EP X pins σ Q) (XP X pins fun cls σ' H'=>σ' = σ∧R cls H') s
def PS1x (X:Cx) (st:Stmt) (t:TSx):Prop :=
  ∀ (pins:List (Addr × Obj)) (s:Shared) (σ:St) (H:Hp) (D:Ends) (R:XR),Inv X pins σ H s→t D R σ H→wpAny (model X.prog X.w) X.A (exec st X.env) (SP X pins D) (XP X pins R) s
def PSx (X:Cx) (st:List Stmt) (t:TSx):Prop :=
  ∀ (pins:List (Addr × Obj)) (s:Shared) (σ:St) (H:Hp) (D:Ends) (R:XR),Inv X pins σ H s→t D R σ H→wpAny (model X.prog X.w) X.A (execs st X.env) (SP X pins D) (XP X pins R) s
section
variable {X:Cx} {e:Expr} {te:TE} {tx:TEx} {st:Stmt} {rest:List Stmt} {ts:TS} {t u:TSx} {pos pos':Pos}
def xDrop (tx:TEx):TSx:=fun D R σ H=>tx σ H (fun _ H1=>D.nx σ H1) fun cls H'=>R cls σ H'
theorem psx_expr (he:PEx X e tx) (hs:swapsWith e none pos.line X.env = pure false:=by rfl):PS1x X (.Expr e pos) (xDrop tx):=by
  intro pins s σ H D R I h
  refine wpAny_Expr_any (wpAny_mono (he pins s σ H _ _ I h) (fun v s1 ⟨x,H1,I1,r1,q1⟩=>⟨σ,H1,I1,q1⟩) fun v s1 ⟨a,cls,σ',H',e1,I1,f,e2,q⟩=>?_) I.quiet hs
  subst e2
  exact ⟨a,cls,_,H',e1,I1,f,q⟩
def xSet (i:Nat) (tx:TEx):TSx:=fun D R σ H=>tx σ H (fun v H1=>D.nx (σ.set i (some v)) H1) fun cls H'=>R cls σ H'
theorem psx_set {i:Nat} {x:Str} (hN:X.N.Nodup) (hi:X.N[i]? = some x) (hx:Loc X.env.scope x) (he:PEx X e tx) (hs:swapsWith e (some (.Name x pos')) pos.line X.env = pure false:=by rfl) (hf:X.fn x = true∨X.env.scope.names.lookup x = some .local:=by first | exact .inl rfl | exact .inr rfl | assumption) :
    PS1x X (.Assign [.Name x pos'] e pos) (xSet i tx):=by
  intro pins s σ H D R I h
  refine wpAny_Assign_Name (wpAny_mono (he pins s σ H _ _ I h) (fun v s1 ⟨y,H1,I1,r1,q1⟩=>?_) fun v s1 ⟨a,cls,σ',H',e1,I1,f,e2,q⟩=>?_) hs
  · exact store_ok I1 hN hi hx r1 (fun s2 I2=>⟨_,H1,I2,q1⟩) hf
  · subst e2
    exact ⟨a,cls,_,H',e1,I1,f,q⟩
theorem psxs_one (h1:PS1x X st t):PSx X [st] t:=by
  intro pins s σ H D R I h
  refine wpAny_execs_cons (thn (h1 pins s σ H D R I h) fun f s1 q=>?_)
  cases f with
  | next=>exact wpAny_execs_nil q
  | ret v=>exact q
  | brk=>exact q
  | cont=>exact q
def xIf (c:TT) (t u:TSx):TSx:=fun D R σ H=>c σ H fun b H1=>if b = true then t D R σ H1 else u D R σ H1
theorem psx_if {c:Expr} {a b:List Stmt} {tc:TT} (hc:PT X.nox c tc) (ha:PSx X a t) (hb:PSx X b u):PS1x X (.If c a b pos) (xIf tc t u):=by
  intro pins s σ H D R I h
  refine wpAny_If (wpAny_mono (hc pins s σ H _ (I.wish _) h) (fun d s1 ⟨H1,I1,q1⟩=>?_) fun _ _ z=>False.elim z)
  cases d with
  | true=>exact ha pins s1 σ H1 D R I1.unwish q1
  | false=>exact hb pins s1 σ H1 D R I1.unwish q1
end
section
variable {X:Cx} {k:Nat} {f C:Addr} {fd:FuncData} {ps:List Str} {sp:Sp} {dvs:List V} {ds:List Value} {x m:Str} {p pos apos:Pos} {e o:Expr} {es:List Expr} {ta:TE} {t:TA}
theorem xp_of {pins:List (Addr × Obj)} {σ:St} {H:Hp} {s s':Shared} {ev:Value} {R:Value→Hp→Prop} (hex:X.ex = []) (I:Inv X pins σ H s) (h:CXE X.prog X.w X.stack H s (fun cls _ H'=>R cls H') ev s') :
    XP X pins (fun cls σ' H'=>σ' = σ∧R cls H') ev s':=by
  obtain ⟨a,cls,H',rfl,os,bare,un,hok,ha,hn,hx,hE⟩:=h
  exact ⟨a,cls,σ,H',rfl,I.call' (s':=s') (ch:=[]) os un hok bare (fun b z=>absurd z (by simp)),I.fly hex ha hn hx,rfl,hE⟩
theorem run_fnx {pins:List (Addr × Obj)} {σ:St} {H:Hp} {s:Shared} {Q:VK} {R:Value→Hp→Prop} {us:List Value} {vs:List V} (F:FnOk X.prog X.w X.K X.mg X.base (CXE X.prog X.w) k f fd ps sp) (hr:Room k X.A) (hb:Binds X.K fd ps ds) (hd:Vals dvs ds) (hex:X.ex = [])
    (I:Inv X pins σ H s) (r:Vals vs us) (h:sp (vs ++ dvs) H Q fun cls _ H'=>R cls H'):wpAny (model X.prog X.w) X.A (call (.ref f) us) (EP X pins σ Q) (XP X pins fun cls σ' H'=>σ' = σ∧R cls H') s:=by
  have r2:Vals (vs ++ dvs) (us ++ ds):=r.append hd
  have hl:(us ++ ds).length = ps.length:=by rw [← r2.length]; exact F.len _ _ _ _ h
  refine wpAny_call (codeAny_mono (F.run X.A X.stack s H ⟨us,[]⟩ (us ++ ds) (vs ++ dvs) Q _ hr I.env0 (hb s us I.kIn hl) r2 h) fun r s' hq=>?_)
  cases r with
  | error e=>exact xp_of hex I hq
  | ok fl =>
    cases fl with
    | ret u=>exact I.after hq
    | next=>exact False.elim hq
    | brk=>exact False.elim hq
    | cont=>exact False.elim hq
def xCall (sp:Sp) (dvs:List V) (t:TA):TEx:=fun σ H Q R=>t σ H fun vs H1=>sp (vs ++ dvs) H1 Q fun cls _ H'=>R cls H'
theorem args_nox {α:Type} {pins:List (Addr × Obj)} {σ:St} {H:Hp} {s:Shared} {Qn:List V→Hp→Prop} {Q:List Value→Shared→Prop} {E:Value→Shared→Prop} {cpos:Pos} (ha:PA X.nox es t) (I:Inv X pins σ H s) (h:t σ H Qn)
    (hf:∀ us s1 vs H1,Inv X pins σ H1 s1→Vals vs us→Qn vs H1→Q us s1):wpAny (model X.prog X.w) X.A (spliced (backTo cpos (starEach es X.env))) Q E s :=
  wpAny_mono (ha cpos pins s σ H Qn (I.wish _) h) (fun us s1 ⟨vs,H1,I1,r,q⟩=>hf us s1 vs H1 I1.unwish r q) fun _ _ z=>False.elim z
theorem pex_call (F:FnOk X.prog X.w X.K X.mg X.base (CXE X.prog X.w) k f fd ps sp) (hr:Room k X.A) (hg:Gl X x) (hm:X.mg x = some (.ref f)) (hk:PySem.W.keepIn X.K (.ref f) = true) (hb:Binds X.K fd ps ds) (hd:Vals dvs ds) (hex:X.ex = [])
    (ha:PA X.nox (e :: es) t) (hdb:(x == ("__debug__" : Str)) = false:=by decide) (he:starEach (e :: es) X.env = (false,eval e X.env) :: starEach es X.env:=by rfl) (hpl:(backTo pos (starEach es X.env)).any (·.1) = false:=by rfl) :
    PEx X (.Call (.Name x p) (e :: es) [] pos) (xCall sp dvs t):=by
  intro pins s σ H Q R I h
  refine wpAny_Call_Name_kw (ld_glob I hg hm ?_ hdb)
  refine PySem.W.callWith_K (h₀:=X.base) I.ok.mod.kin hk (args_nox (α:=Unit) ha I h fun us s1 vs H1 I1 r q=>⟨I1.kIn,?_⟩) he hpl
  exact run_fnx F hr hb hd hex I1 r q
end
end L2
namespace L2
open PySem PySem.Spec PyProof.Rows
abbrev Cx.suite (X:Cx) (a:Addr):Cx:={ X with A:=X.A.mark (some (.ref a)),calm:=false,xe:=fun _ _=>False }
section
variable {X:Cx} {pins:List (Addr × Obj)} {σ:St} {H:Hp} {s:Shared} {a:Addr}
theorem Inv.suite (I:Inv X pins σ H s) (a:Addr):Inv (X.suite a) pins σ H s :=
  ⟨⟨I.ok.mod,I.ok.kind,I.ok.glob,I.ok.blt,I.ok.above,I.ok.inj,I.ok.has,I.ok.cab,(fun z=>nomatch z),I.ok.frames,I.ok.stk,I.ok.exf,I.ok.bs,I.ok.bsz,I.ok.noex,I.ok.exfs,I.ok.funs,I.ok.frf⟩,I.os,I.bare,I.base,I.loc,I.cell,I.free,I.freeC,I.pin,I.hok,I.len⟩
theorem Inv.unsuite (ok:X.Ok) (I:Inv (X.suite a) pins σ H s):Inv X pins σ H s :=
  ⟨ok,I.os,I.bare,I.base,I.loc,I.cell,I.free,I.freeC,I.pin,I.hok,I.len⟩
theorem goes_ok {M:Model} {A:Around} {E:Value→Shared→Prop} {i:Nat} {n:Str} {pos:Pos} {Q:Unit→Shared→Prop} (I:Inv X pins σ H s) (hN:X.N.Nodup) (hi:X.N[i]? = some n) (hk:X.env.kindOf n = some .local)
    (h:∀ s',Inv X pins (σ.set i none) H s'→Q () s'):wpAny M A (do bindName X.env n .none; unbindBehindTheSuite X.env n pos) Q E s:=by
  obtain ⟨m,hn,hl⟩:=id I.loc
  have hcls:(X.env.scope.kind == .class || (X.env.scope.kind == .module && X.env.locals != X.env.globals)) = false:=by rw [I.ok.kind]; rfl
  have hiσ:i < σ.length:=by rw [I.len]; exact (List.getElem?_eq_some_iff.mp hi).1
  have cne:=I.cne
  refine wpAny_nameGoes_keeps hk hn hcls fun h' v hn' hs=>?_
  obtain ⟨oL,_,_,hoL,_⟩:=id hn
  have hok:HOk X.prog X.w H h':=fun b ob e=>by
    refine (I.hok b ob e).stay (fun c w' hc q=>(hs.2 c ?_).trans q) (fun _ q=>q) fun _ _ q=>q
    rintro rfl
    rcases hc with z | hc
    · rw [← z,I.free] at e; cases e
    · rw [I.free] at hc; cases hc
  refine h _ ⟨I.ok,I.os,I.bare,⟨fun b o e n hb hx=>?_,fun b o e n hb hx=>?_,I.base.free,fun b o e hx=>?_,I.base.tups,I.base.frzs,I.base.tbls⟩,⟨_,hn',fun j y v' e1 e2 e3=>?_⟩,fun y c e=>?_,I.free,I.freeC,fun p hp=>?_,hok,by simpa using I.len⟩
  · exact (hs.2 b (Nat.ne_of_lt (Nat.lt_of_lt_of_le (Heap.lt_size e) I.ok.above))).trans (I.base.keep b o e n hb hx)
  · obtain ⟨sl,e1⟩:=I.base.slot b o e n hb hx
    exact ⟨sl,(hs.2 b (Nat.ne_of_lt (Nat.lt_of_lt_of_le (Heap.lt_size e) I.ok.above))).trans e1⟩
  · obtain ⟨o',e1⟩:=I.base.there b o e hx
    exact ⟨o',(hs.2 b (Nat.ne_of_lt (Nat.lt_of_lt_of_le (Heap.lt_size e) I.ok.above))).trans e1⟩
  · by_cases hj:j = i
    · subst hj
      rw [List.getElem?_set_self hiσ] at e2
      cases e2
    · rw [List.getElem?_set_ne (Ne.symm hj)] at e2
      obtain ⟨u',r',q⟩:=hl j y v' e1 e2 e3
      refine ⟨u',r',?_⟩
      rcases q with ⟨k,e⟩ | ⟨k,c,e,z⟩
      · refine .inl ⟨k,?_⟩
        have:y≠n:=fun e=>hj (nodup_ix hN e1 (e ▸ hi))
        simp [this,e]
      · exact .inr ⟨k,c,e,z.sameBut hs (cne y c e)⟩
  · obtain ⟨w',z⟩:=I.cell y c e
    exact ⟨w',z.sameBut hs (cne y c e)⟩
  · obtain ⟨e,n,ne,nf,d⟩:=I.pin p hp
    exact ⟨(hs.2 p.1 ne).trans e,n,ne,nf,d⟩
end
def tTry (K:PySem.W.Frag) (B:Addr) (i:Nat) (tb:TSx) (ts:Addr→TS):TS:=fun D σ H=>tb D (fun cls σ' H'=>∃ C,cls = .ref C∧PySem.W.exmOne K (.ref C) (.ref B) = some true∧∀ a,H' a = none →
  ts a { nx:=fun σ2 H2=>D.nx (σ2.set i none) H2,rt:=D.rt,bk:=fun σ2 H2=>D.bk (σ2.set i none) H2,ct:=fun σ2 H2=>D.ct (σ2.set i none) H2 } (σ'.set i (some (.ref a))) (upd H' a (excO a C))) σ H
section
variable {X:Cx} {i:Nat} {n y:Str} {B:Addr} {body suite:List Stmt} {b₀:Stmt} {tb:TSx} {ts:Addr→TS} {np hp pos:Pos}
theorem met_ok {pins:List (Addr × Obj)} {σ:St} {H:Hp} {s:Shared} {D:Ends} {R:XR} {ev:Value} (hst:X.stack = X.env :: X.outer) (hfr:X.env.frame = some X.env.locals) (hs:∀ a,PSs (X.suite a) (b₀ :: suite) (ts a)) (hg:Gl X y) (hm:X.mg y = some (.ref B))
    (hN:X.N.Nodup) (hi:X.N[i]? = some n) (hk:X.env.kindOf n = some .local)
    (hx:XP X pins (fun cls σ' H'=>∃ C,cls = .ref C∧PySem.W.exmOne X.K (.ref C) (.ref B) = some true∧∀ a,H' a = none →
      ts a { nx:=fun σ2 H2=>D.nx (σ2.set i none) H2,rt:=D.rt,bk:=fun σ2 H2=>D.bk (σ2.set i none) H2,ct:=fun σ2 H2=>D.ct (σ2.set i none) H2 } (σ'.set i (some (.ref a))) (upd H' a (excO a C))) ev s)
    (hdb:(y == ("__debug__" : Str)) = false:=by decide) :
    wpAny (model X.prog X.w) X.A (noteFrame ev X.env) (fun _ s₂=>wpAny (model X.prog X.w) X.A (setFlight ev none) (fun _ s₃=>wpAny (model X.prog X.w) X.A (handleBy ev X.env [.ExceptHandler (some (.Name y np)) (some n) (b₀ :: suite) hp]) (SP X pins D) X.xe s₃) X.xe s₂) X.xe s:=by
  obtain ⟨a,cls,σ,H,rfl,I,fl,C,rfl,hex,hq⟩:=hx
  refine note_s (base:=X.base) (outer:=X.outer) (L:=X.env.locals) (by rw [← hst]; exact I.ok.frames) (by rw [← hst]; exact I.stack) hfr fl.exc fun h' lf=>?_
  rw [← hst] at lf
  have I1:=I.left fl lf
  have fl1:Fly X pins H { s with heap:=h' } a (.ref C):=⟨lf.exc,fl.hn,fl.s0,fl.loc,fl.cell,fl.pin,fl.st⟩
  refine wpAny_handleBy_cons (codeAny_handlers_test (ld_glob (X:=X.suite a) (I1.suite a) hg hm ?_ hdb)) (by intro q; cases q)
  have LT:PySem.W.Looks (model X.prog X.w) h' (typeOf (.ref a)) (.ref C):=by
    obtain ⟨oe,vs,he,hc,_⟩:=lf.exc
    exact hc ▸ (PySem.W.Looks.ld he).andThen .now
  refine (PySem.W.exm_one I1.kIn LT hex) _ _ _ _ (fun _ _ e=>e) ?_
  refine codeAny_handlers_suite_as ?_
  refine land_s fl1.exc fun h2 k2=>?_
  have I2:Inv X pins σ H { s with heap:=h2 }:=I1.kept (t':=s.toks) fun b u q=>(k2 b).trans q
  have fl2:Fly X pins H { s with heap:=h2 } a (.ref C):=⟨fl1.exc.same k2,fl.hn,fl.s0,fl.loc,fl.cell,fl.pin,fl.st⟩
  have I3:=(I2.trackX fl2).suite a
  refine store_ok (X:=X.suite a) (v:=.ref a) I3 hN hi (.inl hk) rfl (fun s4 I4=>?_) (.inr hk)
  refine wpAny_mono (hs a pins s4 _ _ _ I4 (hq a fl.hn)) (fun f s5 hf=>?_) fun _ _ z=>False.elim z
  have fin:∀ {σ2:St} {H2:Hp},Inv (X.suite a) pins σ2 H2 s5→∀ Q:Unit→Shared→Prop,(∀ s',Inv X pins (σ2.set i none) H2 s'→Q () s')→wpAny (model X.prog X.w) X.A (do bindName X.env n .none; unbindBehindTheSuite X.env n hp) Q X.xe s5 :=
    fun J Q hQ=>goes_ok (J.unsuite I.ok) hN hi hk hQ
  cases f with
  | next=>obtain ⟨σ2,H2,J,q⟩:=hf; exact fin J _ fun s' I'=>⟨_,_,I',q⟩
  | brk=>obtain ⟨σ2,H2,J,q⟩:=hf; exact fin J _ fun s' I'=>⟨_,_,I',q⟩
  | cont=>obtain ⟨σ2,H2,J,q⟩:=hf; exact fin J _ fun s' I'=>⟨_,_,I',q⟩
  | ret u=>obtain ⟨v,σ2,H2,J,r,q⟩:=hf; exact fin J _ fun s' I'=>⟨v,_,_,I',r,q⟩
theorem ps_try (hst:X.stack = X.env :: X.outer) (hfr:X.env.frame = some X.env.locals) (hb:PSx X body tb) (hs:∀ a,PSs (X.suite a) (b₀ :: suite) (ts a)) (hg:Gl X y) (hm:X.mg y = some (.ref B))
    (hN:X.N.Nodup) (hi:X.N[i]? = some n) (hk:X.env.kindOf n = some .local) (hdb:(y == ("__debug__" : Str)) = false:=by decide) :
    PS X (.Try body [.ExceptHandler (some (.Name y np)) (some n) (b₀ :: suite) hp] [] [] pos) (tTry X.K B i tb ts):=by
  intro pins s σ H D I h
  refine wpAny_Try_except (wpAny_mono (hb pins s σ H _ _ I h) (fun f s1 q=>?_) fun e s1 q=>met_ok (σ:=σ) (H:=H) (R:=fun _ _ _=>True) hst hfr hs hg hm hN hi hk q hdb)
  cases f with
  | next=>exact wpAny_execs_nil q
  | ret v=>exact q
  | brk=>exact q
  | cont=>exact q
end
end L2
namespace L2
open PySem PySem.Spec PyProof.Rows
abbrev bmVE:List Value:=[.type "ValueError", .type "Exception", .type "BaseException", .type "object"]
def OwnVE (K:PySem.W.Frag) (C:Addr):Prop:=PySem.W.excIn K C bmVE "ValueError.__new__" = true
theorem own_obj {K:PySem.W.Frag} {h:Heap} {C:Addr} {bmB:List Value} {newId:String} (X:K.In h) (q:PySem.W.excIn K C bmB newId = true):∃ bm N nm q bs hdct sn sub ab col dd k0 k1 k2 k3 k5 mN,h.get? C = some (excClassObj nm q C N bs bm hdct sn sub ab col dd k0 k1 k2 k3 k5 newId)∧h.Ns N mN∧mN "__init__" = none∧OwnTail h bmB bm:=by
  unfold PySem.W.excIn at q
  split at q
  · rename_i dd cd sl ho
    split at q
    · rename_i C' bm k0 k1 k2 k3 n k5 hm hs
      simp only [Bool.and_eq_true,beq_iff_eq,Bool.not_eq_true'] at q
      obtain ⟨⟨⟨⟨⟨rfl,rfl⟩,hdel⟩,ht⟩,hok⟩,hni⟩:=q
      obtain ⟨nm,bs,mro,ns,qn,hd,sn,sub,ab,col,del⟩:=cd
      dsimp only at hm hdel hok hni
      subst hm hdel
      have hsl:sl = #[k0,k1,k2,k3,some (.builtin n),k5]:=by
        obtain ⟨l⟩:=sl
        simp only at hs
        rw [hs]
      subst hsl
      exact ⟨bm,ns,nm,qn,bs,hd,sn,sub,ab,col,dd,k0,k1,k2,k3,k5,_,X _ _ ho,.of_isNs (PySem.W.isNs_of_in X hok),PySem.W.nsMap_none_of_in X hok hni,PySem.W.tail_of_in X ht⟩
    · cases q
  · cases q
theorem ObjOk.get {P:Program} {w:World} {H:Hp} {h:Heap} {a:Addr} {o:HO} (x:ObjOk P w H h a o):∃ ob,h.get? a = some ob:=by
  cases o with
  | lst xs=>obtain ⟨_,_,_,_,e⟩:=x; exact ⟨_,e⟩
  | tup xs=>obtain ⟨_,_,_,ob,e,_⟩:=x; exact ⟨_,e⟩
  | dK kvs=>obtain ⟨_,_,_,_,o,_,_,e,_⟩:=x; exact ⟨_,e⟩
  | dT kvs=>obtain ⟨_,_,_,_,o,_,_,e,_⟩:=x; exact ⟨_,e⟩
  | set S n=>obtain ⟨o,_,_,_,e,_⟩:=x; exact ⟨_,e⟩
  | ins C dx fs=>obtain ⟨_,_,_,e,_⟩:=x; exact ⟨_,e⟩
  | own y=>obtain ⟨_,e⟩:=x; exact ⟨_,e⟩
  | xd fs=>obtain ⟨_,⟨_,_,_,e,_⟩,_⟩:=x; exact ⟨_,e⟩
  | rng lo hi=>obtain ⟨_,_,_,e⟩:=x; exact ⟨_,e⟩
  | frz ob u=>obtain ⟨e,_⟩:=x; exact ⟨_,e⟩
  | tbl ps=>obtain ⟨_,e,_⟩:=x; exact ⟨_,e⟩
  | met f y=>exact ⟨_,(show h.get? a = some _ from x)⟩
  | ext φ=>obtain ⟨_,⟨_,e⟩,_⟩:=x; exact ⟨_,e⟩
theorem HOk.off {P:Program} {w:World} {H:Hp} {h:Heap} {a:Addr} (x:HOk P w H h) (e:h.get? a = none):H a = none:=by
  cases q:H a with
  | none=>rfl
  | some u =>
    obtain ⟨ob,z⟩:=(x a u q).get
    rw [e] at z; cases z
def Raises (X:Cx) (E:XK):Prop:=∀ (pins:List (Addr × Obj)) (σ:St) (H:Hp) (s:Shared) (a:Addr) (cls:Value),Inv X pins σ H s→ExcO s.heap a cls→X.s₀.heap.get? a = none→H a = none→E cls none H→X.xe (.ref a) s
def tRaise (C:Addr) (E:XK) (t:TA):TS:=fun _ σ H=>t σ H fun vs H1=>vs.length≤sizeLine∧E (.ref C) none H1
theorem raisesE {P:Program} {w:World} {K:PySem.W.Frag} {mg:Str→Option Value} {base:Heap} {N:List Str} {qual:Str} {scope:Scope} {f:Addr} {cd:Value} {A:Around} {outer:List Env} {s0:Shared} {H0:Hp} {E:XK} :
    Raises (cxOf (CXE P w) P w K mg base N qual scope f cd A outer s0 H0 E) E:=fun pins σ H s a cls I hx ha hn hE=>xe_of I hx ha hn hE
section
variable {X:Cx} {C:Addr} {E:XK} {x:Str} {e₀:Expr} {rest:List Expr} {t:TA} {np cpos pos:Pos}
theorem ps_raise (hc:X.calm = true) (hex:X.ex = []) (own:OwnVE X.K C) (hg:Gl X x) (hm:X.mg x = some (.ref C)) (hE:Raises X E) (ha:PA X (e₀ :: rest) t)
    (hd:(x == ("__debug__" : Str)) = false:=by decide) (he:starEach (e₀ :: rest) X.env = (false,eval e₀ X.env) :: starEach rest X.env:=by rfl) (hplain:(backTo cpos (starEach rest X.env)).any (·.1) = false:=by rfl) :
    PS X (.Raise (some (.Call (.Name x np) (e₀ :: rest) [] cpos)) none pos) (tRaise C E t):=by
  intro pins s σ H D I h
  obtain ⟨tl,N,nm,q,bs,hdct,sn,sub,ab,col,dd,k0,k1,k2,k3,k5,mN,hC,hN,hni,T⟩:=own_obj I.mod.kin own
  have FB:=PySem.F.excBase_ValueError
  refine wpAny_Raise_call_subT (C:=C) (nm:=nm) (q:=q) (N:=N) (bs:=bs) (bm:=tl) (hdct:=hdct) (sn:=sn) (sub:=sub) (ab:=ab) (col:=col) (dd:=dd) (k0:=k0) (k1:=k1) (k2:=k2) (k3:=k3) (k5:=k5)
    FB (mN:=mN) (T.hasType FB.hasBase) (I.ok.hd hc) (by rw [he]; show (false || (backTo cpos (starEach rest X.env)).any (·.1)) = false; rw [hplain]; rfl) hni (ld_glob I hg hm ⟨rfl,?_⟩ hd)
  have hA:=thn (ha cpos pins s σ H _ I h) (Q':=fun us s2=>us.length≤sizeLine∧(∀ b o,X.base.get? b = some o→s2.heap.get? b = some o)∧∀ h' e,Heap.MadeExcOf s2.heap h' e (.ref C) us→X.xe (.ref e) { s2 with heap:=h' }) fun us s2 ⟨vs,H1,I1,r,hl,hq⟩=>by
    refine ⟨by rw [← r.length]; exact hl,I1.bk,fun h' e mk=>?_⟩
    obtain ⟨t,h1,h2,h3⟩:=mk.there
    have hn:=I1.hok.off mk.new
    exact hE pins σ H1 _ e (.ref C) (I1.kept (t':=s2.toks) mk.keeps) ⟨_,_,h1,rfl,rfl,rfl,by rfl,.inl (by rfl)⟩ (I1.fresh0 hex mk.new) hn hq
  rw [he] at hA ⊢
  exact Calls.evalArgs_plain (wpAny_mono hA (fun vs s₂ h₂=>⟨rfl,h₂.1,h₂.2.1 _ _ hC,hN.keeps h₂.2.1,T.keeps h₂.2.1,h₂.2.2⟩) fun _ _ y=>y)
end
end L2
namespace L2
open PySem PySem.Spec PyProof.Rows
theorem entry_unchain:entryFor table "proto.unchain" = some Builtin.«proto.unchain»:=entryFor_of_tree (by kernel_rfl)
section
variable {prog:Program} {w:World} {A:Around} {E:Value→Shared→Prop} {s:Shared}
theorem range_endH {it e:Addr} {oe:Obj} {vs:Array Value} {x left step:Int} {Q:Option Value→Shared→Prop} (hh:A.handled = some (.ref e)) (he:s.heap.get? e = some oe) (hd:oe.data = .fields vs) (h2:vs[2]? = some .none)
    (hit:IsRangeIter s.heap it x left step) (hleft:left≤0) (hQ:∀ h',Heap.ExtBut it s.heap h'→Q none { s with heap:=h' }):wpAny (model prog w) A (pyNext (.ref it)) Q E s:=by
  have hT:s.TypeIs (.ref it) "range_iterator" := ⟨_,hit,rfl⟩
  unfold pyNext
  refine wpAny_bind (wpAny_attempt (wpAny_callSpecial?_slot (name:=Str.ofString "__next__") hT F.slot_range_iterator_next
    (wpAny_call_entry F.slot_range_iterator_next hT F.entry_range_iterator_next ?_ (F.args_range_iterator_next_1 _))))
  show wpAny _ _ (field (.ref it) 0 >>= _) _ _ s
  refine wpAny_bind (wpAny_field hit rfl (x:=rawInt x) rfl ?_)
  show wpAny _ _ (field (.ref it) 1 >>= _) _ _ s
  refine wpAny_bind (wpAny_field hit rfl (x:=rawInt left) rfl ?_)
  show wpAny _ _ (field (.ref it) 2 >>= _) _ _ s
  refine wpAny_bind (wpAny_field hit rfl (x:=rawInt step) rfl ?_)
  show wpAny _ _ (if left≤0 then _ else _) _ _ s
  rw [if_pos hleft]
  refine wpAny_bind (wpAny_rule ?_)
  refine wpAny_bind ?_
  show wpAny _ _ (newExc (.type "StopIteration") [] >>= _) _ _ _
  refine wpAny_bind ?_
  simp only [newExc,newTuple]
  refine wpAny_bind (wpAny_newObj_type ?_ (by size_fits))
  refine wpAny_bind (m:=firstArgMember _ _) (wpAny_of_eq (a:=Value.none) (by first | rfl | (simp only [firstArgMember]; rfl)) ?_)
  refine wpAny_newObj_type ?_ (by size_fits)
  simp only [raiseNew]
  refine wpAny_bind (wpAny_handled ?_)
  rw [show A.in1.handled = some (.ref e) from hh]
  dsimp only
  have lt:e < s.heap.objs.size:=Heap.lt_size he
  have ne:(Value.ref e != Value.ref (s.heap.push { cls:=.type "tuple", data:=.seq #[] }).objs.size) = true:=by
    have:e≠(s.heap.push { cls:=.type "tuple", data:=.seq #[] }).objs.size:=by rw [Heap.size_push]; exact Nat.ne_of_lt (Nat.lt_succ_of_lt lt)
    simpa using this
  rw [if_pos ne]
  refine wpAny_bind (wpAny_holding (wpAny_runValue (codeAny_builtin entry_unchain ?_)))
  show wpAny _ _ (field (.ref e) 2 >>= _) _ _ _
  refine wpAny_bind (wpAny_field (Heap.get?_push_of_some _ (Heap.get?_push_of_some _ he)) hd h2 ?_)
  rw [if_pos (by rfl)]
  refine wpAny_bind (wpAny_pure (wpAny_pure ?_))
  refine wpAny_bind (show wpAny _ _ (setField (.ref _) 2 (.ref e)) _ _ _ from wpAny_setField (Heap.get?_push_size _ rfl) rfl (by simp; omega) ?_)
  refine wpAny_throw ?_
  refine wpAny_bind (wpAny_isInstance (T := "StopIteration") (b:=true) ⟨_,Heap.get?_update_self _ (Heap.get?_push_size _ rfl) (by rfl),rfl⟩ isSubtype_stop ?_)
  refine wpAny_pure (hQ _ fun b o hb q=>?_)
  have hb2:b≠(s.heap.push { cls:=.type "tuple", data:=.seq #[] }).objs.size:=by
    rw [Heap.size_push]; exact Nat.ne_of_lt (Nat.lt_succ_of_lt (Heap.lt_size q))
  rw [Heap.get?_update_other _ _ (Ne.symm hb2)]
  exact Heap.get?_push_of_some _ (Heap.get?_push_of_some _ q)
end
abbrev HandE (e:Addr) (X:Cx):Prop:=X.A.handled = some (.ref e)
def ItrH (e:Addr) (lo:Int) (n:Nat):It:=⟨fun i _=>i < n,fun i H x H'=>H' = H∧x = .int (lo + i),fun i H=>n≤i∧∃ D,H e = some (excO e D)⟩
theorem turn_rangeH {P:Program} {w:World} {K:PySem.W.Frag} {tg:Expr} (e it:Addr) (lo:Int) (n:Nat):Turn P w K tg (ItrH e lo n) [it] it (fun i h=>IsRangeIter h it (lo + (i:Nat) * 1) ((n:Int) - (i:Nat)) 1) (HandE e) where
  mem:=by simp
  obj:=fun i h st b hb=>by
    have e:b = it:=by simpa using hb
    subst e
    exact ⟨_,st,fun v z=>by
      have z':Data.fields _ = Data.cell v:=z
      cases z'⟩
  keep:=fun i h h' st k=>k it (by simp) _ st
  item:=by
    intro X hP hw hK hc i pins s σ H E I hf st hg
    subst hP hw hK
    obtain ⟨f0,f1,f2,f3,f4,f5⟩:=hf it (by simp)
    refine wpAny_pyNext_range_item st (by have:i < n:=hg; omega) fun h' hit' hs'=>?_
    have I1:Inv X pins σ H { s with heap:=h',toks:=s.toks + 1 }:=I.turned (fun b o hb e=>hs'.extBut b o hb e) f0 f1 f3 f4 f5
    have st':IsRangeIter h' it (lo + ((i + 1:Nat):Int) * 1) ((n:Int) - ((i + 1:Nat):Int)) 1:=by
      have e1:lo + ((i + 1:Nat):Int) * 1 = lo + (i:Int) * 1 + 1:=by push_cast; omega
      have e2:(n:Int) - ((i + 1:Nat):Int) = (n:Int) - (i:Int) - 1:=by push_cast; omega
      rw [e1,e2]; exact hit'
    refine ⟨_,rfl,go_of (s:={ s with heap:=h',toks:=s.toks + 1 }) (n := "range_iterator") st' rfl rfl (by decide) ⟨.int (lo + i),H,I1,⟨s.toks,?_⟩,⟨rfl,rfl⟩,st',fun b hb=>(hf b hb).1⟩⟩
    rw [Int.mul_one]
  done:=by
    intro X hP hw hK hc i pins s σ H E I hf st hg
    subst hP hw hK
    obtain ⟨f0,f1,f2,f3,f4,f5⟩:=hf it (by simp)
    obtain ⟨hn,D,hD⟩:=hg
    obtain ⟨oe,vs,J,hd,h2⟩:=Rd.exc I.hok hD
    exact range_endH hc J.at_ hd h2 st (by omega) fun h' eb=>⟨rfl,I.turned (t':=s.toks) (fun b o hb e=>eb b o hb e) f0 f1 f3 f4 f5⟩
  self:=fun _ _ _ _ _ st h=>wpAny_pyIter_rangeiter st h
section
variable {X:Cx} {tg:Expr} {e:Addr}
theorem range_itH {pins:List (Addr × Obj)} {σ:St} {H:Hp} {s:Shared} {R:It→Hp→Prop} {E:Value→Shared→Prop} {lo hi:Int} {t u v:Tok} {tk:Nat} (I:Inv X pins σ H s) (h1:-(2 ^ 62)≤lo) (h2:lo < 2 ^ 62) (h3:-(2 ^ 62)≤hi) (h4:hi < 2 ^ 62)
    (q:R (ItrH e lo (hi - lo).toNat) H):wpAny (model X.prog X.w) X.A (pyIter (.ref s.heap.objs.size)) (PIEr (HandE e) X pins σ tg R) E { s with heap:=s.heap.push { cls:=.type "range", data:=.fields #[.int lo t,.int hi u,.int 1 v] },toks:=tk }:=by
  refine wpAny_pyIter_range (IsRange.new ..) (small_one h1 h2 h3 h4) ?_
  have I1:Inv X pins σ H { s with heap:=s.heap.push { cls:=.type "range", data:=.fields #[.int lo t,.int hi u,.int 1 v] },toks:=tk }:=I.kept fun b o e=>Heap.get?_push_of_some _ e
  refine ⟨(s.heap.push { cls:=.type "range", data:=.fields #[.int lo t,.int hi u,.int 1 v] }).objs.size,[(s.heap.push { cls:=.type "range", data:=.fields #[.int lo t,.int hi u,.int 1 v] }).objs.size],_,_,H,rfl,
    I1.kept (t':=tk) fun b o e=>Heap.get?_push_of_some _ e,turn_rangeH e _ lo (hi - lo).toNat,?_,fun b hb=>?_,q⟩
  · have e1:lo + ((0:Nat):Int) * 1 = lo:=by simp
    have e2:(((hi - lo).toNat:Nat):Int) - ((0:Nat):Int) = Builtin.Range.rangeSize lo hi 1:=by rw [rangeSize_one]; split <;> omega
    show IsRangeIter _ _ (lo + ((0:Nat):Int) * 1) ((((hi - lo).toNat:Nat):Int) - ((0:Nat):Int)) 1
    rw [e1,e2]
    exact Heap.get?_push_size _ rfl
  · have e:b = (s.heap.push { cls:=.type "range", data:=.fields #[.int lo t,.int hi u,.int 1 v] }).objs.size:=by simpa using hb
    subst e
    exact I1.fpOk (Nat.le_refl _) (I1.hok.fresh (Nat.le_refl _))
def iRng1H (e:Addr) (ta:TA):TI:=fun σ H R=>ta σ H fun vs H1=>∃ j:Int,vs = [.int j]∧-(2 ^ 62)≤j∧j < 2 ^ 62∧R (ItrH e 0 j.toNat) H1
theorem pi_range1H {a:Expr} {ta:TA} {p pos:Pos} (hg:Gl X "range") (hm:X.mg "range" = none) (ha:PA X [a] ta) (hs:starEach [a] X.env = [(false,eval a X.env)]:=by rfl):PIr (HandE e) X tg (.Call (.Name "range" p) [a] [] pos) (iRng1H e ta):=by
  intro pins s σ H R I h
  refine Call_ (ld_blt I hg hm boot_range (PyProof.Rows.callWith_type1 (thn (ha pos pins s σ H _ I h) fun us s1 ⟨vs,H1,I1,r1,q1⟩=>?_) hs rfl))
  obtain ⟨j,e,q1,q2,q⟩:=q1
  subst e
  cases r1 with
  | cons r rr =>
    cases rr
    obtain ⟨t,rfl⟩:=r
    exact call_range_1 (range_itH I1 (by omega) (by omega) q1 q2 (by simpa using q))
def clsV:V→Value
  | .ref a=>.ref a
  | .ty n=>.type n
  | _=>.none
def isCV:V→Bool
  | .ref _=>true
  | .ty _=>true
  | _=>false
theorem call_isiX {K:PySem.W.Frag} (hK:X.K = K):CallR X (.builtin "isinstance") (fun xs H Q=>∃ a D c b,xs = [.ref a,c]∧H a = some (excO a D)∧XCls K D∧isCV c = true∧PySem.W.kitOne K (.ref D) (clsV c) = some b∧Q (.bl b) H):=by
  subst hK
  rintro pins s σ H xs us Q I r ⟨a,D,c,b,rfl,ha,cl,ic,ek,q⟩
  cases r with
  | cons r1 r2 =>
    cases r2 with
    | cons r3 r4 =>
      cases r4
      rename_i u1 u2
      obtain ⟨o,vs,J,_⟩:=Rd.exc I.hok ha
      have eu1:u1 = Value.ref a:=r1
      subst eu1
      have eu:u2 = clsV c:=by
        cases c with
        | ref a=>exact r3
        | ty n=>exact r3
        | _=>cases ic
      subst eu
      exact PySem.W.kia_one (kitx_exc cl) I.kIn ⟨o,J⟩ ek (fun z=>nomatch z) fun tk=>⟨.bl b,H,I.tok _,rfl,q⟩
end
structure RoomH (k:Nat) (A:Around):Prop where
  gd:A.guards = some []
  dp:A.depth + 3 * k + 5 < recursionLimit
  un:A.units + 16 * k + 200 < cLine
theorem RoomH.of {k:Nat} {A:Around} (r:Room k A) (v:Option Value):RoomH k (A.mark v):=⟨r.gd,r.dp,r.un⟩
structure FnOkH (P:Program) (w:World) (K:PySem.W.Frag) (mg:Str→Option Value) (base:Heap) (ex:Addr) (k:Nat) (f:Addr) (fd:FuncData) (ps:List Str) (sp:Sp):Prop where
  len:∀ vs H Q E,sp vs H Q E→vs.length = ps.length
  run:∀ (A:Around) (outer:List Env) (s:Shared) (H:Hp) (args:Args) (us:List Value) (vs:List V) (Q:VK) (E:XK),RoomH k A→A.handled = some (.ref ex)→Env0 P w K mg base A outer s H→BindsTo s fd args (ps.zip us)→Vals vs us→sp vs H Q E →
    codeAny (model P w) A (.call (.ref f) args) (CR CX0 outer P w H s Q E) s
abbrev cxOfH (P:Program) (w:World) (K:PySem.W.Frag) (mg:Str→Option Value) (base:Heap) (N:List Str) (qual:Str) (scope:Scope) (f:Addr) (cd:Value) (A:Around) (outer:List Env) (s:Shared) (H:Hp) (E:XK):Cx :=
  { cxOf CX0 P w K mg base N qual scope f cd A outer s H E with calm:=false }
theorem fn_ofH {P:Program} {w:World} {K:PySem.W.Frag} {mg:Str→Option Value} {base:Heap} {ex:Addr} {k:Nat} {f:Addr} {name qual:Str} {params:Arguments} {body:List Stmt} {scope:Scope} {dV kV doc pm cdv ct oc:Value} {an od:Option Addr}
    {osl:Array (Option Value)} {N ps:List Str} {sp:Sp} (lk:K.lookup f = some ⟨oc,od,.func (PySem.W.fnOf name qual params body scope dV kV doc pm an cdv ct),osl⟩) (hcd:PySem.W.codeIn K cdv qual = true) (S:FnScope N ps scope)
    (len:∀ vs H Q E,sp vs H Q E→vs.length = ps.length)
    (hbody:∀ (A:Around) (outer:List Env) (s:Shared) (H:Hp) (vs:List V) (Q:VK) (E:XK),RoomH k (A.deeper (envOfC qual scope s.heap.objs.size f cdv))→A.handled = some (.ref ex)→sp vs H Q E →
      ∃ t,PSs (cxOfH P w K mg base N qual scope f cdv A outer s H E) body t∧t { nx:=fun _ H'=>Q .non H',rt:=Q } (start N vs) H) :
    FnOkH P w K mg base ex (k + 1) f (PySem.W.fnOf name qual params body scope dV kV doc pm an cdv ct) ps sp:=by
  refine ⟨len,fun A outer s H args us vs Q E hr hh e0 hb r hsp=>?_⟩
  have hl:=len _ _ _ _ hsp
  have KX:K.In s.heap:=e0.mod.kin.keeps fun b o e=>(e0.bs b o e).1
  have lim:s.heap.NoLimit:=e0.mod.nolimit.keeps fun b o e=>(e0.bs b o e).1
  have hkind:∀ y∈ps.zip us,scope.names.lookup y.1 = some .local∨(scope.names.lookup y.1 = some .cell∧((cellsFrom (s.heap.objs.size + 1) scope.names []).lookup y.1).isSome = true):=fun ⟨n,v⟩ hy=>by
    rcases S.par n (List.of_mem_zip hy).1 with q | q
    · exact .inl q
    · exact .inr ⟨q,PySem.W.cellsFrom_some _ _ _ (.inl q)⟩
  refine codeAny_call_function (by have:=hr.dp; omega) (KX _ _ lk) rfl S.co S.gen rfl (PySem.W.codeRec_of KX hcd) (hb _ _ _ _ ?_)
  refine wpAny_newFunctionEnv_cells S.kind hkind fun env he s1 x=>?_
  subst he
  refine ⟨lim.keeps x.toInCall.keep,codeAny_func ?_⟩
  have hrd:RoomH k (A.deeper (envOfC qual scope s.heap.objs.size f cdv)):=⟨hr.gd,by have:=hr.dp; show A.depth + 1 + 3 * k + 5 < _; omega,by have:=hr.un; show A.units + 3 + 16 * k + 200 < _; omega⟩
  obtain ⟨t,ht,hq⟩:=hbody A outer s H vs Q E hrd hh hsp
  have e1:Env0 P w K mg base { A with handled:=none } outer s H:=⟨e0.frames,e0.mod,e0.bs,e0.bsz,e0.funs,e0.frf,e0.hok,e0.bare⟩
  have I0:Inv (cxOf CX0 P w K mg base N qual scope f cdv { A with handled:=none } outer s H E) [] (start N vs) H s1:=inv_start S rfl e1 hl r x
  have I:Inv (cxOfH P w K mg base N qual scope f cdv A outer s H E) [] (start N vs) H s1 :=
    ⟨⟨I0.ok.mod,I0.ok.kind,I0.ok.glob,I0.ok.blt,I0.ok.above,I0.ok.inj,I0.ok.has,I0.ok.cab,(fun z=>nomatch z),I0.ok.frames,I0.ok.stk,I0.ok.exf,I0.ok.bs,I0.ok.bsz,I0.ok.noex,I0.ok.exfs,I0.ok.funs,I0.ok.frf⟩,I0.os,I0.bare,I0.base,I0.loc,I0.cell,I0.free,I0.freeC,I0.pin,I0.hok,I0.len⟩
  refine wpAny_mono (ht [] s1 (start N vs) H _ I hq) (fun fl s' hs=>?_) fun e s' hs=>hs
  have fin:∀ {σ':St} {H':Hp} {v:V} {u:Value},Inv (cxOfH P w K mg base N qual scope f cdv A outer s H E) [] σ' H' s'→RelV v u→Q v H'→CE outer P w H s Q u s' :=
    fun {σ' H' v u} J rv q=>⟨v,H',J.os,J.bare,J.base,J.hok,rv,q⟩
  cases fl with
  | ret u =>
    obtain ⟨v,σ',H',J,rv,q⟩:=hs
    exact fin J rv q
  | next =>
    obtain ⟨σ',H',J,q⟩:=hs
    exact fin (v:=V.non) (u:=Value.none) J rfl q
  | brk =>
    obtain ⟨_,_,_,q⟩:=hs
    exact False.elim q
  | cont =>
    obtain ⟨_,_,_,q⟩:=hs
    exact False.elim q
theorem Fun.okH {P:Program} {w:World} {K:PySem.W.Frag} {mg:Str→Option Value} {base:Heap} {ex:Addr} {x qual:Str} {st:Stmt} {f:Addr} {fd:FuncData} {N ps:List Str} {k:Nat} {sp:Sp} (F:Fun K x qual st f fd) (S:FnScope N ps (defScope st)) (len:∀ vs H Q E,sp vs H Q E→vs.length = ps.length)
    (hbody:∀ (cdv:Value) (A:Around) (outer:List Env) (s:Shared) (H:Hp) (vs:List V) (Q:VK) (E:XK),RoomH k (A.deeper (envOfC qual (defScope st) s.heap.objs.size f cdv))→A.handled = some (.ref ex)→sp vs H Q E →
      ∃ t,PSs (cxOfH P w K mg base N qual (defScope st) f cdv A outer s H E) (defBody st) t∧t { nx:=fun _ H'=>Q .non H',rt:=Q } (start N vs) H):FnOkH P w K mg base ex (k + 1) f fd ps sp:=by
  obtain ⟨oc,od,kV,doc,pm,an,cdv,ct,osl,rfl,lk,hcd⟩:=F.ex
  exact fn_ofH lk hcd S len fun A outer s H vs Q E hr hh hsp=>hbody cdv A outer s H vs Q E hr hh hsp
section
variable {X:Cx} {k:Nat} {f ex:Addr} {fd:FuncData} {ps:List Str} {sp:Sp} {dvs:List V} {ds:List Value} {x:Str} {p pos:Pos} {e:Expr} {es:List Expr} {t:TA} {E:XK}
theorem pe_callH (F:FnOkH X.prog X.w X.K X.mg X.base ex k f fd ps sp) (hr:RoomH k X.A) (hh:X.A.handled = some (.ref ex)) (hg:Gl X x) (hm:X.mg x = some (.ref f)) (hk:PySem.W.keepIn X.K (.ref f) = true) (hb:Binds X.K fd ps ds) (hd:Vals dvs ds)
    (ha:PA X (e :: es) t) (hdb:(x == ("__debug__" : Str)) = false:=by decide) (he:starEach (e :: es) X.env = (false,eval e X.env) :: starEach es X.env:=by rfl) (hpl:(backTo pos (starEach es X.env)).any (·.1) = false:=by rfl) :
    PE X (.Call (.Name x p) (e :: es) [] pos) (tCall sp dvs E t):=by
  intro pins s σ H Q I h
  refine wpAny_Call_Name_kw (ld_glob I hg hm ?_ hdb)
  refine PySem.W.callWith_K (h₀:=X.base) I.ok.mod.kin hk (thn (ha pos pins s σ H _ I h) fun us s1 ⟨vs,H1,I1,r,q⟩=>⟨I1.kIn,?_⟩) he hpl
  have r2:Vals (vs ++ dvs) (us ++ ds):=r.append hd
  have hl:(us ++ ds).length = ps.length:=by rw [← r2.length]; exact F.len _ _ _ _ q
  refine wpAny_call (codeAny_mono (F.run X.A X.stack s1 H1 ⟨us,[]⟩ (us ++ ds) (vs ++ dvs) Q E hr hh I1.env0 (hb s1 us I1.kIn hl) r2 q) fun r s' hq=>?_)
  cases r with
  | error e=>exact hq.elim
  | ok fl =>
    cases fl with
    | ret u=>exact I1.after hq
    | next=>exact False.elim hq
    | brk=>exact False.elim hq
    | cont=>exact False.elim hq
end
end L2
namespace L2
open PySem PySem.Spec PyProof.Rows
abbrev TF:=St→Hp→(Hp→Prop)→Prop
def PF (X:Cx) (e:Expr) (t:TF):Prop :=
  ∀ (pins:List (Addr × Obj)) (s:Shared) (σ:St) (H:Hp) (Q:Hp→Prop),Inv X pins σ H s→t σ H Q→wpAny (model X.prog X.w) X.A (eval e X.env) (fun v s1=>∃ y tk H1,v = .str y tk∧y.length≤3000∧Inv X pins σ H1 s1∧Q H1) X.xe s
def PFs (X:Cx) (es:List Expr) (t:TF):Prop :=
  ∀ (acc:Str) (n:Nat) (pins:List (Addr × Obj)) (s:Shared) (σ:St) (H:Hp) (Q:Hp→Prop),acc.length≤3000 * n→n + es.length≤100→Inv X pins σ H s→t σ H Q →
    Joins (model X.prog X.w) X.A X.xe (evalEach es X.env) acc (fun out s1=>out.length≤sizeLine∧∃ H1,Inv X pins σ H1 s1∧Q H1) s
section
variable {X:Cx} {e v₁ v₂:Expr} {es rest:List Expr} {t u:TF} {te:TE} {pos:Pos}
def fTxt:TF:=fun _ H Q=>Q H
theorem pf_str {x:Str} {j pos} (hx:x.length≤3000:=by decide):PF X (.Constant (.str x) j pos) fTxt:=fun _ _ _ H _ I h=>Calls.Constant_str ⟨x,_,H,rfl,hx,I.tok _,h⟩
def fInt (te:TE):TF:=fun σ H Q=>te σ H fun v H1=>∃ i:Int,v = .int i∧i.natAbs.log2 < 1920∧Q H1
theorem pf_int (he:PE X e te):PF X (.FormattedValue e (-1) none pos) (fInt te):=by
  intro pins s σ H Q I h
  refine wpAny_FormattedValue_plain (thn (he pins s σ H _ I h) fun v s1 ⟨x,H1,I1,r,i,ex,hi,q⟩=>?_)
  subst ex
  obtain ⟨tk,rfl⟩:=(show ∃ t,v = Value.int i t from r)
  refine wpAny_formatField_int hi ⟨_,_,H1,rfl,?_,I1.tok _,q⟩
  have e:=int_text_length_le (k:=1920) (by decide) hi
  rw [PySem.ofString_length]; omega
def fNil:TF:=fun _ H Q=>Q H
def fCons (t u:TF):TF:=fun σ H Q=>t σ H fun H1=>u σ H1 Q
theorem pfs_nil:PFs X [] fNil:=fun acc n pins s σ H Q ha hn I h=>⟨by rw [sizeLine_eq]; have:n≤100:=hn; omega,H,I,h⟩
theorem pfs_cons (h1:PF X e t) (h2:PFs X es u):PFs X (e :: es) (fCons t u):=by
  intro acc n pins s σ H Q ha hn I h
  show wpAny _ _ (eval e X.env) _ _ s
  refine thn (h1 pins s σ H _ I h) fun v s1 ⟨y,tk,H1,ev,hy,I1,q⟩=>⟨y,tk,ev,?_,?_⟩
  · rw [strLen_append,sizeLine_eq]
    have:n + (es.length + 1)≤100:=hn
    omega
  · refine h2 (acc ++ y) (n + 1) pins s1 σ H1 Q ?_ ?_ I1 q
    · rw [strLen_append]; omega
    · have:n + (es.length + 1)≤100:=hn
      omega
def tFst (t:TF):TE:=fun σ H Q=>t σ H fun H1=>∀ x:Str,Q (.str x) H1
theorem pe_fst (h:PFs X (v₁ :: v₂ :: rest) t) (hn:rest.length≤90:=by decide):PE X (.JoinedStr (v₁ :: v₂ :: rest) pos) (tFst t):=by
  intro pins s σ H Q I hq
  refine wpAny_JoinedStr ?_
  have:=h Str.empty 0 pins s σ H _ (by decide) (by show 0 + (rest.length + 1 + 1)≤100; omega) I hq
  refine joins_mono _ _ this fun out s1 ⟨hz,H1,I1,q⟩=>⟨hz,.str out,H1,I1.tok _,⟨_,rfl⟩,q out⟩
where
  joins_mono {M:Model} {A:Around} {E:Value→Shared→Prop} {Q Q':Str→Shared→Prop}:∀ (l:List (Sem Value)) (acc:Str) {s:Shared},Joins M A E l acc Q s→(∀ o s,Q o s→Q' o s)→Joins M A E l acc Q' s
    | [],_,_,h,k=>k _ _ h
    | _ :: r,acc,_,h,k=>wpAny_mono h (fun _ _ ⟨y,t,e,z,q⟩=>⟨y,t,e,z,joins_mono r (acc ++ y) q k⟩) fun _ _ z=>z
end
end L2
namespace L2
open PySem PySem.Spec PyProof.Rows
theorem bt_ValueError:bootBuiltins "ValueError" = some (.type "ValueError"):=by decide +kernel
structure AskC (K:PySem.W.Frag) (C:Addr):Prop where
  cl:(PySem.W.clsIn K C).isSome = true
  ty:PySem.W.typeIn K (.ref C) = some (.type "type")
structure ExcB (K:PySem.W.Frag) (B:Addr):Prop where
  cl:(PySem.W.clsIn K B).isSome = true
  ty:PySem.W.typeIn K (.ref B) = some (.type "type")
  bx:PySem.W.mroIn K B (.type "BaseException") = some true
structure ExcC (K:PySem.W.Frag) (B D:Addr):Prop where
  own:OwnVE K D
  ga:PySem.W.findIn K (.ref D) "__getattribute__" = some (some (.builtin "BaseException.__getattribute__"))
  gt:PySem.W.findIn K (.ref D) "__getattr__" = some none
  ca:PySem.W.findIn K (.ref D) "__class__" = some (some (.builtin "object.__class__"))
  mro:(PySem.W.clsIn K D).map (·.mro) = some (.ref D :: .ref B :: bmVE)
section
variable {K:PySem.W.Frag} {B C D:Addr}
theorem ExcC.mroIn (x:ExcC K B D) (v:Value):PySem.W.mroIn K D v = some ((Value.ref D :: .ref B :: bmVE).contains v):=by
  have m:=x.mro
  unfold PySem.W.mroIn
  cases h:PySem.W.clsIn K D with
  | none=>rw [h] at m; cases m
  | some cd =>
    rw [h] at m
    have e:cd.mro = .ref D :: .ref B :: bmVE:=Option.some.inj m
    show (if cd.mro.isEmpty = true then none else some (cd.mro.contains v)) = _
    rw [e]
    rfl
theorem ExcC.xcls (x:ExcC K B D):XCls K D:=⟨x.ga,x.gt,x.ca,by rw [x.mroIn]; rfl,by rw [x.mroIn]; rfl,by
  have m:=x.mro
  cases h:PySem.W.clsIn K D with
  | none=>rw [h] at m; cases m
  | some cd=>rfl⟩
theorem kitCls_ref (q:AskC K C) (t:Value):PySem.W.kitCls K t (.ref C) = PySem.W.subIn K t (.ref C):=by
  show (if ((PySem.W.clsIn K C).isSome && PySem.W.typeIn K (.ref C) == some (.type "type")) = true then PySem.W.subIn K t (.ref C) else none) = _
  rw [if_pos (by rw [q.cl,q.ty]; rfl)]
theorem kit_self:PySem.W.kitOne K (.ref D) (.ref D) = some true:=by
  unfold PySem.W.kitOne
  rw [if_pos (by simp)]
theorem kit_ne (x:ExcC K B D) (q:AskC K C) (h1:D≠C) (h2:B≠C):PySem.W.kitOne K (.ref D) (.ref C) = some false:=by
  unfold PySem.W.kitOne
  rw [if_neg (by simpa using h1),kitCls_ref q]
  show PySem.W.mroIn K D (.ref C) = some false
  rw [x.mroIn]
  have e1:(Value.ref C == Value.ref D) = false:=by simpa using Ne.symm h1
  have e2:(Value.ref C == Value.ref B) = false:=by simpa using Ne.symm h2
  rw [List.contains_cons,List.contains_cons,e1,e2]
  rfl
theorem kit_eq (x:ExcC K B D) (q:AskC K C) (h2:B≠C):PySem.W.kitOne K (.ref D) (.ref C) = some (decide (D = C)):=by
  by_cases z:D = C
  · subst z; rw [kit_self]; simp
  · rw [kit_ne x q z h2]; simp [z]
theorem kit_ve (x:ExcC K B D):PySem.W.kitOne K (.ref D) (.type "ValueError") = some true:=by
  unfold PySem.W.kitOne
  rw [if_neg (by simp)]
  unfold PySem.W.kitCls
  have h:PySem.W.kitMeta "ValueError" = true:=by decide +kernel
  show (if PySem.W.kitMeta "ValueError" = true then PySem.W.subIn K (.ref D) (.type "ValueError") else none) = _
  rw [if_pos h]
  show PySem.W.mroIn K D (.type "ValueError") = _
  rw [x.mroIn]
  rfl
theorem exm_of (b:ExcB K B) (x:ExcC K B D):PySem.W.exmOne K (.ref D) (.ref B) = some true:=by
  unfold PySem.W.exmOne
  have e:PySem.W.subIn K (.ref B) (.type "BaseException") = some true:=b.bx
  rw [e,if_pos (by rfl),kitCls_ref ⟨b.cl,b.ty⟩]
  show PySem.W.mroIn K D (.ref B) = _
  rw [x.mroIn]
  simp
end
end L2
namespace L2
open PySem PySem.Spec PyProof.Rows
theorem askC_mk {K:PySem.W.Frag} {C:Addr} (cl:PySem.W.isClsIn K C = true) (ty:PySem.W.typeIn K (.ref C) = some (.type "type")):AskC K C:=⟨cl,ty⟩
theorem excB_mk {K:PySem.W.Frag} {C:Addr} (cl:PySem.W.isClsIn K C = true) (ty:PySem.W.typeIn K (.ref C) = some (.type "type")) (bx:PySem.W.mroIn K C (.type "BaseException") = some true):ExcB K C:=⟨cl,ty,bx⟩
theorem excC_mk {K:PySem.W.Frag} {B C:Addr} (ow:PySem.W.excIn K C bmVE "ValueError.__new__" = true) (ga:PySem.W.findIn K (.ref C) "__getattribute__" = some (some (.builtin "BaseException.__getattribute__"))) (gt:PySem.W.findIn K (.ref C) "__getattr__" = some none) (ca:PySem.W.findIn K (.ref C) "__class__" = some (some (.builtin "object.__class__"))) (mr:(PySem.W.clsIn K C).map (·.mro) = some (.ref C :: .ref B :: bmVE)):ExcC K B C:=⟨ow,ga,gt,ca,mr⟩
end L2
namespace Sen
open PySem L2 Bdd
abbrev Small (i:Int):Prop:=i.natAbs.log2 < 1920
def Bad (n:Nat) (i:Int):Prop:=i < 0∨(n:Int)≤i
inductive spRoomR (C D:Addr) (vs:List V) (H:Hp) (Q9:VK) (E:XK):Prop
  | mk (b:Addr) (os:List Str) (rs:List Rm) (F:Foot) (i:Int) (_:vs = [.ref b,.int i]) (_:BookAt C H b os rs F) (_:Bad rs.length i) (_:Small i) (_:E (.ref D) none H):spRoomR C D vs H Q9 E
def spRoomE (C D:Addr):Sp:=fun vs H Q E=>spMustRoom C vs H Q E∨spRoomR C D vs H Q E
end Sen
namespace L2
open PySem PySem.Spec PyProof.Rows
theorem lc_genH {ex:Addr} {n:Nat} {σ:St} {js:List Nat} {tt:TT} {te:TE} {H:Hp} {Qf:Addr→Hp→List V→Prop} (Pv:Nat→List V→Hp→Prop) (h0:Pv 0 [] H) (hz:n≤sizeLine) (hl:∀ i ys H,i≤n→Pv i ys H→ys.length≤i)
    (hx:∀ ys H,Pv n ys H→∃ D,H ex = some (excO ex D))
    (hs:∀ (i:Nat) ys H (N1:V→Hp→Prop) (N2:Hp→Prop),i < n→Pv i ys H→(∀ v H3,Pv (i + 1) (ys ++ [v]) H3→N1 v H3)→(∀ H2,Pv (i + 1) ys H2→N2 H2) →
      tt (lcS σ js (some (.int ((0:Int) + i)))) H fun b H2=>if b = true then te (lcS σ js (some (.int ((0:Int) + i)))) H2 N1 else N2 H2)
    (hd:∀ ys H p,Pv n ys H→H p = none→Qf p H ys) :
    ∃ W:Nat→Nat→List V→Hp→Prop,(∃ m,W 0 m [] H)∧∀ i m ys H,W i m ys H →
      ((ItrH ex 0 n).stop i H∧∀ p,H p = none→Qf p H ys) ∨
      ((ItrH ex 0 n).go i H∧ys.length < sizeLine∧∀ x H',(ItrH ex 0 n).yld i H x H'→tt (lcS σ js (some x)) H' fun b H2 =>
        if b = true then te (lcS σ js (some x)) H2 fun v H3=>∃ m',m' < m∧W (i + 1) m' (ys ++ [v]) H3 else ∃ m',m' < m∧W (i + 1) m' ys H2):=by
  refine ⟨fun i m ys H=>m = n - i∧i≤n∧Pv i ys H,⟨n,by simp,Nat.zero_le _,h0⟩,?_⟩
  rintro i m ys H ⟨rfl,hi,p⟩
  have hy:=hl i ys H hi p
  by_cases hlt:i < n
  · refine .inr ⟨hlt,by omega,fun x H' y=>?_⟩
    obtain ⟨e,y⟩:=y
    subst e y
    exact hs i ys _ _ _ hlt p (fun v H3 p3=>⟨_,Nat.sub_lt_sub_left hlt (Nat.lt_succ_self i),rfl,hlt,p3⟩) (fun H2 p2=>⟨_,Nat.sub_lt_sub_left hlt (Nat.lt_succ_self i),rfl,hlt,p2⟩)
  · have e:i = n:=by omega
    subst e
    exact .inl ⟨⟨Nat.le_refl _,hx ys H p⟩,fun q hq=>hd ys H q p hq⟩
end L2
namespace Sen
open PySem L2 Bdd
def termsB:List Str:=["order", "mark", "room", "row", "number", "weights", "shares", "cover", "great"]
inductive spWhichB (K:PySem.W.Frag) (B:Addr) (cs:List Addr) (e:Addr) (vs:List V) (H:Hp) (Q:VK) (E9:XK):Prop
  | mk (D:Addr) (n:Nat) (_:vs = [.ref e]) (_:H e = some (excO e D)) (_:ExcC K B D) (_:n < 9) (_:cs.map (fun C=>decide (D = C)) = (List.range 9).map (fun i=>decide (i = n))) (_:∀ (t l:Addr) (H':Hp),Same H H'→H' t = some (.tup [.str "refused", .ref l])→H' l = some (.lst [.str (termsB.getD n "")])→Q (.ref t) H'):spWhichB K B cs e vs H Q E9
inductive spIsB (K:PySem.W.Frag) (vs:List V) (H:Hp) (Q:VK) (E9:XK):Prop
  | mk (t l:Addr) (x:Str) (_:vs = [.ref t,.str x]) (_:H t = some (.tup [.str "refused", .ref l])) (_:SqL K H l [.str x]) (_:∀ H',Same H H'→Q (.bl true) H'):spIsB K vs H Q E9
end Sen
namespace Sen
open PySem L2 Bdd
theorem nd_of {l:List Addr} (h:l.Nodup) {n:Nat} {c:Addr} (e:l[n]? = some c):l.map (fun C=>decide (c = C)) = (List.range l.length).map (fun i=>decide (i = n)):=by
  obtain ⟨hn,rfl⟩:=List.getElem?_eq_some_iff.mp e
  have p:=List.pairwise_iff_getElem.mp h
  refine List.ext_getElem (by rw [List.length_map,List.length_map,List.length_range]) fun i h1 h2=>?_
  rw [List.length_map] at h1
  rw [List.getElem_map,List.getElem_map,List.getElem_range]
  rcases Nat.lt_trichotomy i n with z | z | z
  · rw [decide_eq_false (Ne.symm (p i n h1 hn z)),decide_eq_false (Nat.ne_of_lt z)]
  · subst z; rw [decide_eq_true rfl,decide_eq_true rfl]
  · rw [decide_eq_false (p n i hn h1 z),decide_eq_false (Nat.ne_of_gt z)]
end Sen
namespace L2
open PySem
theorem ifB {c:Bool} {A B:Prop} (e:c = false) (h:B):if c = true then A else B:=by rw [e,if_neg Bool.false_ne_true]; exact h
end L2
namespace L2
open PySem PySem.Spec PyProof.Rows
theorem Fun.okLE {P:Program} {w:World} {K:PySem.W.Frag} {mg:Str→Option Value} {base:Heap} {x qual:Str} {st:Stmt} {f c:Addr} {fd:FuncData} {N ps:List Str} {k:Nat} {sp:Sp} (F:Fun K x qual st f fd) (hc:fd.code = .ref c) (S:FnScope N ps (defScope st)) (len:∀ vs H Q E,sp vs H Q E→vs.length = ps.length)
    (hbody:∀ (A:Around) (outer:List Env) (s:Shared) (H:Hp) (vs:List V) (Q:VK) (E:XK),Room k (A.deeper (envOfC qual (defScope st) s.heap.objs.size f (.ref c)))→sp vs H Q E →
      ∃ t,PSs (cxOf (CXE P w) P w K mg base N qual (defScope st) f (.ref c) A outer s H E) (defBody st) t∧t { nx:=fun _ H'=>Q .non H',rt:=Q } (start N vs) H):FnOk P w K mg base (CXE P w) (k + 1) f fd ps sp:=by
  obtain ⟨oc,od,kV,doc,pm,an,cdv,ct,osl,rfl,lk,hcd⟩:=F.ex
  have e:cdv = .ref c:=hc
  subst e
  exact fn_of lk hcd S len fun A outer s H vs Q E hr hsp=>hbody A outer s H vs Q E hr hsp
end L2
namespace L2
open PySem PySem.Spec PyProof.Rows PySem.W
def upS (b c:List Str):Bool:=!decide (b = c) && !SeqAt.lexB (fun j=>decide (b.getD j "" = c.getD j "")) (fun j=>decide ((b.getD j "").cps.toList < (c.getD j "").cps.toList)) b.length c.length (min b.length c.length) 0
section
variable {prog:Program} {w:World} {A:Around} {E:Value→Shared→Prop} {s:Shared}
theorem sort_upT {a:Addr} {vs:List Value} {n:Nat} {P:PySem.Fin→Shared→Prop} (ho:s.heap.get? a = some (seqObj "list" vs.toArray n)) (hz:vs.length≤1000)
    {fs:List Value} (hT:∀ h':Heap,(∀ b o,b≠a→s.heap.get? b = some o→h'.get? b = some o)→PySem.W.KatTups h' vs fs) (hL:∀ h':Heap,(∀ b o,b≠a→s.heap.get? b = some o→h'.get? b = some o)→∀ v∈fs,Looks (model prog w) h' (typeOf v) (.type "list")) (hlf:fs.length = vs.length)
    (hc:∀ (h':Heap),(∀ b o,b≠a→s.heap.get? b = some o→h'.get? b = some o)→∀ m,1≤m→m < vs.length→∀ C:Bool→Shared→Prop,C false { s with heap:=h' }→wpAny (model prog w) A (keyLt' (tuples' true) (vs.getD m .none) (vs.getD (m - 1) .none)) C (fun _ _=>False) { s with heap:=h' })
    (h:P (.done (.ret .none)) { s with heap:=sortedHeap s.heap a vs vs.toArray }) :
    wpAny (model prog w) A (Builtin.«list.sort» ⟨[.ref a],[]⟩) P E s:=by
  rw [list_sort_plain]
  have ha:a < s.heap.objs.size:=Heap.lt_size ho
  refine wpAny_bind (listItems_at ho rfl ?_)
  refine wpAny_bind (listUpdate_at ho rfl ?_ (by rw [List.size_toArray,sizeLine_eq]; omega) (Nat.zero_le _))
  obtain ⟨e1,ho1⟩:∃ e1,(s.heap.update a (Obj.mapSeq fun _=>#[])).get? a = some (seqObj "list" #[] e1):=⟨_,get?_update_seq ho (fun _=>#[])⟩
  refine wpAny_bind (seqEpoch_at ho1 rfl ?_)
  refine wpAny_bind (wpAny_newTuple ?_ (by show vs.length≤_; rw [sizeLine_eq]; omega))
  refine wpAny_bind (wpAny_newList ?_ (Nat.zero_le _))
  refine wpAny_holding ?_
  have ho6:(((s.heap.update a (Obj.mapSeq fun _=>#[])).push (seqObj "tuple" vs.toArray 0)).push (seqObj "list" #[] 0)).get? a = some (seqObj "list" #[] e1):=by
    rw [Heap.get?_push_ne _ _ _ (by rw [size_push',Heap.size_update]; exact Nat.ne_of_lt (Nat.lt_succ_of_lt ha)),Heap.get?_push_ne _ _ _ (by rw [Heap.size_update]; exact Nat.ne_of_lt ha)]
    exact ho1
  have keep:∀ b o,b≠a→s.heap.get? b = some o→(((s.heap.update a (Obj.mapSeq fun _=>#[])).push (seqObj "tuple" vs.toArray 0)).push (seqObj "list" #[] 0)).get? b = some o:=fun b o hb e=>by
    have hlt:=Heap.lt_size e
    rw [Heap.get?_push_ne _ _ _ (by rw [size_push',Heap.size_update]; exact Nat.ne_of_lt (Nat.lt_succ_of_lt hlt)),Heap.get?_push_ne _ _ _ (by rw [Heap.size_update]; exact Nat.ne_of_lt hlt),Heap.get?_update_ne _ _ _ _ hb]
    exact e
  show wpAny (model prog w) A _ P E { s with heap:=((s.heap.update a (Obj.mapSeq fun _=>#[])).push (seqObj "tuple" vs.toArray 0)).push (seqObj "list" #[] 0) }
  dsimp only
  have hsz:vs.toArray.size = vs.length:=by simp
  have end_:∀ (st':SortSt),(arrOf st').map (·.2) = vs.toArray→failedOf st' = none→wpAny (model prog w) A (do
      let touched:=(← seqEpoch a) != e1
      Builtin.List.listUpdate (.ref a) fun _=>(arrOf st').map (·.2)
      if let some e:=failedOf st' then rule "list.sort.comparison-raised"; throw e
      if touched then rule "list.sort.modified"; raiseError "ValueError" "list modified during sort"
      ret .none) P E { s with heap:=((s.heap.update a (Obj.mapSeq fun _=>#[])).push (seqObj "tuple" vs.toArray 0)).push (seqObj "list" #[] 0) }:=fun st' e2 hf=>by
    refine wpAny_bind (seqEpoch_at ho6 rfl ?_)
    refine wpAny_bind (listUpdate_at ho6 rfl ?_ (Nat.zero_le _) (by rw [e2,hsz,sizeLine_eq]; omega))
    rw [hf,e2]
    simp only [bne_self_eq_false,Bool.false_eq_true,if_false]
    exact wpAny_pure h
  by_cases h2:vs.toArray.size < 2
  · rw [if_pos h2,if_pos h2]
    refine wpAny_bind (wpAny_pure ?_)
    rw [StateT.run_pure]
    refine wpAny_bind (wpAny_pure ?_)
    refine end_ (SortSt.mk' general' (vs.toArray.zip vs.toArray) #[] 7 none) ?_ rfl
    show (vs.toArray.zip vs.toArray).map (·.2) = vs.toArray
    apply Array.toList_inj.mp
    rw [Array.toList_map]
    simp only [Array.toList_zip]
    exact List.map_snd_zip (Nat.le_refl _)
  · rw [if_neg h2,if_neg h2]
    refine wpAny_bind (PySem.W.kat_kind (T:=.type "list") (hT _ keep) (by omega) (hL _ keep) (by rfl) ?_)
    rw [show (Value.type "list" != Value.type "tuple") = true by decide]
    have est:SortSt.mk' (tuples' true) (vs.toArray.zip vs.toArray) #[] 7 none = kas_st (tuples' true) (pairsOf vs) (List.toArray (List.range vs.length)):=by
      have e:=kas_range (pairsOf vs)
      rw [pairsOf_size] at e
      show SortSt.mk' (tuples' true) (pairsOf vs) #[] 7 none = SortSt.mk' (tuples' true) ((List.toArray (List.range vs.length)).map (kas_item (pairsOf vs))) #[] 7 none
      rw [e]
    have run:=runs_up (E:=E) (prog:=prog) (w:=w) (A:=A) (κ:=tuples' true) (it:=pairsOf vs) (R:=fun s'=>s' = { s with heap:=((s.heap.update a (Obj.mapSeq fun _=>#[])).push (seqObj "tuple" vs.toArray 0)).push (seqObj "list" #[] 0) })
      (Q:=fun _ st' s'=>arrOf st' = (List.toArray (List.range vs.length)).map (kas_item (pairsOf vs))∧failedOf st' = none∧s' = { s with heap:=((s.heap.update a (Obj.mapSeq fun _=>#[])).push (seqObj "tuple" vs.toArray 0)).push (seqObj "list" #[] 0) })
      (n:=vs.length) (by omega) (fun m s' h1 hm e=>by
        subst e
        unfold kas_cmp
        rw [kas_item_eq,kas_item_eq]
        exact hc _ keep m h1 hm _ ⟨rfl,rfl⟩) rfl (fun st' s' a1 a2 a3=>⟨a1,a2,a3⟩)
    rw [← est] at run
    refine wpAny_bind (wpAny_mono run ?_ fun _ _ e=>e)
    rintro ⟨⟨⟩,st'⟩ s' ⟨har,hf,rfl⟩
    refine end_ st' ?_ hf
    have e:=kas_range (pairsOf vs)
    rw [pairsOf_size] at e
    rw [har,e]
    apply Array.toList_inj.mp
    rw [Array.toList_map,pairsOf_toList]
    exact List.map_snd_zip (Nat.le_refl _)
end
theorem eqD_strsN {K:PySem.W.Frag} {H:Hp} {n:Nat} {p q:Addr} {xs ys:List Str} (hp:SqL K H p (xs.map V.str)) (hq:SqL K H q (ys.map V.str)) (ne:xs≠ys):EqD K H (n + 1) (.ref p) (.ref q) false:=by
  by_cases hl:xs.length = ys.length
  · have z:EqD K H (n + 1) (.ref p) (.ref q) ((List.range (xs.map V.str).length).all fun j=>decide (xs[j]? = ys[j]?)):=.ll hp hq (by rw [List.length_map,List.length_map]; exact hl) fun j x y h1 h2=>by
      rw [List.getElem?_map] at h1 h2
      cases hx:xs[j]? with
      | none=>rw [hx] at h1; cases h1
      | some a =>
        rw [hx] at h1
        cases h1
        cases hy:ys[j]? with
        | none=>rw [hy] at h2; cases h2
        | some b =>
          rw [hy] at h2
          cases h2
          have:=EqD.flat (K:=K) (H:=H) (n:=n) (x:=.str a) (y:=.str b) rfl rfl
          rw [show decide (some a = some b) = decide (a = b) from decide_eq_decide.mpr ⟨Option.some.inj,fun e=>by rw [e]⟩]
          exact this
    have e:((List.range (xs.map V.str).length).all fun j=>decide (xs[j]? = ys[j]?)) = false:=by
      rw [List.length_map]
      cases hc:(List.range xs.length).all fun j=>decide (xs[j]? = ys[j]?) with
      | false=>rfl
      | true =>
        exfalso
        rw [List.all_eq_true] at hc
        refine ne (List.ext_getElem? fun j=>?_)
        by_cases hj:j < xs.length
        · exact of_decide_eq_true (hc j (List.mem_range.mpr hj))
        · rw [List.getElem?_eq_none (by omega),List.getElem?_eq_none (by omega)]
    rw [e] at z
    exact z
  · exact .ln hp hq (by rw [List.length_map,List.length_map]; exact hl)
section
variable {X:Cx}
theorem call_sorted_upT {K:PySem.W.Frag} (hK:X.K = K) (hu:X.A.units + 9 < cLine):CallR X (.builtin "sorted") (fun xs H Q=>∃ (p:Addr) (ys:List Addr) (L:List (List Str)),xs = [.ref p]∧SqL K H p (ys.map V.ref)∧Paired (fun t o=>∃ (q:Addr) (z:V),H t = some (.tup [.ref q,z])∧H q = some (.lst (o.map V.str))) ys L∧(∀ m,1≤m→m < L.length→upS (L.getD m []) (L.getD (m - 1) []) = true)∧L.length≤1000 ∧
    ∀ l,H l = none→Q (.ref l) (upd H l (.lst (ys.map V.ref)))):=by
  subst hK
  intro pins s σ H xs us Q I r h
  obtain ⟨p,ys,L,rfl,hq,hp,hup,hz,q⟩:=h
  obtain ⟨u,rfl,rx⟩:=vals1 r
  cases rx
  obtain ⟨vs,rv,pl,hzz⟩:=I.list hq
  have lv:=rv.length
  rw [List.length_map] at lv
  have ly:=pd_len hp
  have hz':vs.length≤1000:=by omega
  refine Calls.call_function_entry kind_sorted plain_sorted entry_sorted (args_sorted1 _) ?_
  unfold Builtin.«sorted»
  refine wpAny_bind (m:=checkCount "sorted" 1 1 _) (wpAny_pure ?_)
  refine wpAny_bind (collect_list pl.isList ?_ (by rw [sizeLine_eq]; omega))
  refine wpAny_bind (wpAny_newList ?_ (by rw [sizeLine_eq]; omega))
  have hsz:((s.heap.push (seqObj "list" #[] 0)).update s.heap.objs.size (Obj.mapSeq (· ++ vs.toArray))).objs.size = s.heap.objs.size + 1:=by
    rw [Heap.size_update,size_push']
  have hoL:(((s.heap.push (seqObj "list" #[] 0)).update s.heap.objs.size (Obj.mapSeq (· ++ vs.toArray))).push (seqObj "list" vs.toArray 0)).get? (s.heap.objs.size + 1) = some (seqObj "list" vs.toArray 0):=by
    rw [← hsz]; exact Heap.get?_push_size _ rfl
  have keep:∀ b o,s.heap.get? b = some o→(((s.heap.push (seqObj "list" #[] 0)).update s.heap.objs.size (Obj.mapSeq (· ++ vs.toArray))).push (seqObj "list" vs.toArray 0)).get? b = some o:=fun b o e=>by
    have hlt:b < s.heap.objs.size:=Heap.lt_size e
    rw [Heap.get?_push_ne _ _ _ (by rw [hsz]; exact Nat.ne_of_lt (Nat.lt_succ_of_lt hlt)),Heap.get?_update_ne _ _ _ _ (Nat.ne_of_lt hlt),Heap.get?_push_ne _ _ _ (Nat.ne_of_lt hlt)]
    exact e
  show wpAny _ _ _ _ _ { s with heap:=((s.heap.push (seqObj "list" #[] 0)).update s.heap.objs.size (Obj.mapSeq (· ++ vs.toArray))).push (seqObj "list" vs.toArray 0) }
  rw [hsz]
  have I1:Inv X pins σ H { s with heap:=((s.heap.push (seqObj "list" #[] 0)).update s.heap.objs.size (Obj.mapSeq (· ++ vs.toArray))).push (seqObj "list" vs.toArray 0),toks:=s.toks }:=I.kept keep
  have at_:∀ m,m < vs.length→∃ b o q z,vs.getD m .none = .ref b∧L[m]? = some o∧H b = some (.tup [.ref q,z])∧H q = some (.lst (o.map V.str)):=fun m hm=>by
    have hy:m < ys.length:=by omega
    obtain ⟨v,hv,rv'⟩:=rv.get (show (ys.map V.ref)[m]? = some (.ref ys[m]) by rw [List.getElem?_map,List.getElem?_eq_getElem hy]; rfl)
    cases rv'
    obtain ⟨o,h1,qq,z,h2,h3⟩:=pd_at hp (List.getElem?_eq_getElem hy)
    exact ⟨ys[m],o,qq,z,by rw [List.getD_eq_getElem?_getD,hv]; rfl,h1,h2,h3⟩
  have old:∀ b o,s.heap.get? b = some o→b≠s.heap.objs.size + 1:=fun b o e=>Nat.ne_of_lt (Nat.lt_succ_of_lt (Heap.lt_size e))
  have tup_:∀ {b q:Addr} {o:List Str} {z:V},H b = some (.tup [.ref q,z])→H q = some (.lst (o.map V.str))→∃ (it:List Value) (u:Value) (il:List Value),s.heap.IsTuple b [.ref q,u].toArray∧s.heap.IsList q il.toArray∧Vals (o.map V.str) il:=fun {b q o z} hb hq'=>by
    obtain ⟨it,r1,t1,_⟩:=I.tuple (SqT.of hb)
    obtain ⟨il,r2,t2,_⟩:=I.list (SqL.of hq')
    cases r1 with
    | cons ra rb =>
      cases rb with
      | cons rc rd =>
        cases rd
        cases ra
        exact ⟨[],_,il,t1,t2.isList,r2⟩
  generalize hH:((s.heap.push (seqObj "list" #[] 0)).update s.heap.objs.size (Obj.mapSeq (· ++ vs.toArray))).push (seqObj "list" vs.toArray 0) = hp1 at hoL keep I1 ⊢
  have ka:∀ (zs:List Addr) (Ls:List (List Str)) (us:List Value),Paired (fun t o=>∃ (q:Addr) (z:V),H t = some (.tup [.ref q,z])∧H q = some (.lst (o.map V.str))) zs Ls→Vals (zs.map V.ref) us→∃ fs:List Value,fs.length = us.length∧(∀ h':Heap,(∀ b o,b≠s.heap.objs.size + 1→hp1.get? b = some o→h'.get? b = some o)→KatTups h' us fs)∧∀ v∈fs,∃ q il,v = .ref q∧s.heap.IsList q il:=by
    intro zs
    induction zs with
    | nil =>
      intro Ls us hp hv
      cases hv
      exact ⟨[],rfl,fun _ _=>KatTups.nil,fun v h=>by cases h⟩
    | cons t zs ih =>
      intro Ls us hp hv
      cases hp with
      | cons r rest =>
        cases hv with
        | cons rv1 rvs =>
          cases rv1
          obtain ⟨qq,z,hb,hq'⟩:=r
          obtain ⟨fs,l,kt,ks⟩:=ih _ _ rest rvs
          obtain ⟨_,u,il,t1,t2,_⟩:=tup_ hb hq'
          refine ⟨.ref qq :: fs,by rw [List.length_cons,List.length_cons,l],fun h' kp=>?_,fun v hv=>?_⟩
          · obtain ⟨o,e,c,n,d⟩:=t1
            exact KatTups.cons (kp _ o (old _ o e) (keep _ o e)) c d rfl (kt h' kp)
          · rcases List.mem_cons.mp hv with e | e
            · exact ⟨qq,_,e,t2⟩
            · exact ks v e
  obtain ⟨fs,lf,kt,ks⟩:=ka ys L vs hp rv
  refine wpAny_bind (wpAny_holding (wpAny_call_entry slot_list_sort ⟨_,hoL,rfl⟩ entry_list_sort (sort_upT (s:={ s with heap:=hp1 }) (fs:=fs) hoL hz' (fun h' kp=>kt h' kp) (fun h' kp v hv=>?_) lf (fun h' kp m h1 hm C hC=>?_) ⟨_,rfl,?_⟩) (args_list_sort _)))
  · obtain ⟨qq,il,rfl,o,e,c,_⟩:=ks v hv
    exact fun A Q E s' k q=>wpAny_typeOf (T := "list") ⟨o,k qq o (kp qq o (old _ o e) (keep _ o e)),c⟩ q
  · obtain ⟨b,ob,qb,zb,b1,b2,b3,b4⟩:=at_ m hm
    obtain ⟨c,oc,qc,zc,c1,c2,c3,c4⟩:=at_ (m - 1) (by omega)
    rw [b1,c1]
    obtain ⟨_,ub,ib,tb,lb,vb⟩:=tup_ b3 b4
    obtain ⟨_,uc,ic,tc,lc,vc⟩:=tup_ c3 c4
    have up:=hup m h1 (by omega)
    have gb:L.getD m [] = ob:=by rw [List.getD_eq_getElem?_getD,b2]; rfl
    have gc:L.getD (m - 1) [] = oc:=by rw [List.getD_eq_getElem?_getD,c2]; rfl
    rw [gb,gc] at up
    unfold upS at up
    rw [Bool.and_eq_true] at up
    have nbc:ob≠oc:=fun e=>by rw [decide_eq_true e] at up; cases up.1
    have lx:SeqAt.lexB (fun j=>decide (ob.getD j "" = oc.getD j "")) (fun j=>decide ((ob.getD j "").cps.toList < (oc.getD j "").cps.toList)) ob.length oc.length (min ob.length oc.length) 0 = false:=by
      have:=up.2
      simpa using this
    obtain ⟨o1,e1,k1,n1,d1⟩:=tb
    obtain ⟨o2,e2,k2,n2,d2⟩:=tc
    have zb:=vb.length
    have zc:=vc.length
    rw [List.length_map] at zb zc
    have it:∀ {o:List Str} {its:List Value} {j:Nat} (h:j < its.toArray.size),Vals (o.map V.str) its→RelV (.str (o.getD j "")) its.toArray[j]:=fun {o its j} h v=>by
      have h':j < its.length:=by simpa using h
      have hr:j < o.length:=by have:=v.length; rw [List.length_map] at this; omega
      obtain ⟨x,hx,rx⟩:=v.get (show (o.map V.str)[j]? = some (.str (o.getD j "")) by rw [List.getElem?_map,List.getElem?_eq_getElem hr,List.getD_eq_getElem?_getD,List.getElem?_eq_getElem hr]; rfl)
      rw [List.getElem?_eq_getElem h'] at hx
      cases hx
      simpa using rx
    have hlb:h'.IsList qb ib.toArray:=by
      obtain ⟨o,e,c⟩:=lb
      exact ⟨o,kp qb o (old _ o e) (keep _ o e),c⟩
    have hlc:h'.IsList qc ic.toArray:=by
      obtain ⟨o,e,c⟩:=lc
      exact ⟨o,kp qc o (old _ o e) (keep _ o e),c⟩
    have eqs:∀ (A:Around) j (h1:j < ib.toArray.size) (h2:j < ic.toArray.size),SeqAt.EqAt A { s with heap:=h' } ib.toArray[j] ic.toArray[j] (decide (ob.getD j "" = oc.getD j "")):=fun A j h1 h2=>by
      have w:eqV (.str (ob.getD j "")) (.str (oc.getD j "")) = decide (ob.getD j "" = oc.getD j ""):=rfl
      rw [← w]
      exact eqAt_V (it h1 vb) (it h2 vc) rfl rfl
    refine kat_lt (kp _ o1 (old _ o1 e1) (keep _ o1 e1)) d1 (kp _ o2 (old _ o2 e2) (keep _ o2 e2)) d2 ?_
    show KatLex _ _ _ _ _ _ ((Value.ref qb,Value.ref qc) :: [(ub,uc)]) 0 _
    refine kat_cons ?_
    have eqL:SeqAt.EqAt X.A.in1.in1 { s with heap:=h' } (.ref qb) (.ref qc) false:=by
      have I2:Inv X pins σ H { s with heap:=h',toks:=s.toks }:=I.kept fun b o e=>kp b o (old b o e) (keep b o e)
      exact (eqD_strsN (n:=0) (SqL.of b4) (SqL.of c4) nbc).at I2 rfl rfl (by show X.A.units + 1 + 1 + 1 < cLine; omega)
    refine eqL _ _ _ _ ?_
    refine kat_no ?_
    have z:=oneLt_list (prog:=X.prog) (w:=X.w) (A:=X.A.in1.in1) (E:=fun _ _=>False) (Q:=C) (s:={ s with heap:=h' }) (e:=fun j=>decide (ob.getD j "" = oc.getD j "")) (f:=fun j=>decide ((ob.getD j "").cps.toList < (oc.getD j "").cps.toList)) hlb hlc (by show X.A.units + 1 + 1 < cLine; omega) (fun j h1 h2=>eqs _ j h1 h2) (fun j h1 h2 hj=>?_) ?_
    · rw [keyLt'_oneType] at z
      exact z
    · intro prog w E Q hq
      obtain ⟨t1,e1⟩:=it h1 vb
      obtain ⟨t2,e2⟩:=it h2 vc
      rw [e1,e2]
      exact lt_str hq
    · simp only [List.size_toArray]
      rw [← zb,← zc,lx]
      exact hC
  · subst hH
    refine wpAny_pure ⟨_,rfl,?_⟩
    obtain ⟨e,he⟩:=sortedAll_at s.heap vs vs.toArray
    have hf:H (s.heap.objs.size + 1) = none:=I.hok.fresh (Nat.le_succ _)
    have s64:=small1000 (n:=ys.length) (by omega)
    refine ⟨.ref (s.heap.objs.size + 1),_,I.laid (t':=s.toks) (o:=.lst (ys.map V.ref)) (fun b o e=>sortedAll_old e) (Nat.le_succ _) ?_,rfl,q _ hf⟩
    exact ⟨by rw [List.length_map]; exact Nat.le_of_lt s64,vs,e,rv,he⟩
end
end L2
namespace Sen
open PySem L2 Bdd PyProof.Rows
def o60:List Str:=["e", "a", "d", "b", "c"]
def s60:List Str:=["a", "b", "c", "d", "e"]
def f60:Row→Bool:=fun r=>r 1 && r 3
theorem up60:(List.range 120).all (fun m=>decide (m = 0) || upS ((prm 5 s60).getD m []) ((prm 5 s60).getD (m - 1) [])) = true:=by decide +kernel
theorem len60:(prm 5 s60).length = 120:=by decide +kernel
theorem sz60:(prm 5 s60).all (fun o=>decide (szO o60 f60 o = 4)) = true:=by decide +kernel
theorem fst60:(prm 5 s60)[0]? = some s60:=by decide +kernel
theorem so60:sortedS s60 = true:=by decide +kernel
inductive spBook60 (C:Addr) (K:PySem.W.Frag) (vs:List V) (H:Hp) (Q:VK) (E9:XK):Prop
  | mk (sc ol:Addr) (ns:List Int) (os:List Str) (_:vs = [.ref sc,.ref ol]) (_:SqL K H sc (ns.map V.int)) (_:H ol = some (.lst (os.map V.str))) (_:IsOrd os) (_:∀ (b:Addr) (rs:List Rm) (F:Foot) (H':Hp),Same H H'→BookAt C H' b os rs F→rs.length≤1000→Q (.ref b) H'):spBook60 C K vs H Q E9
inductive spMet60 (C:Addr) (vs:List V) (H:Hp) (Q:VK) (E9:XK):Prop
  | mk (m:Int) (b:Addr) (os:List Str) (rs:List Rm) (F:Foot) (i:Int) (_:vs = [.int m,.ref b,.int i]) (_:BookAt C H b os rs F) (_:Bad rs.length i) (_:Small i) (_:∀ (t l:Addr) (H':Hp),Same H H'→H' t = some (.tup [.str "refused", .ref l])→H' l = some (.lst [.str "room"])→Q (.ref t) H'):spMet60 C vs H Q E9
theorem szo60 {o:List Str} (h:o∈prm 5 s60):szO o60 f60 o = 4:=of_decide_eq_true (List.all_eq_true.mp sz60 o h)
theorem ups60 {m:Nat} (h1:1≤m) (h2:m < 120):upS ((prm 5 s60).getD m []) ((prm 5 s60).getD (m - 1) []) = true:=by
  have:=List.all_eq_true.mp up60 m (List.mem_range.mpr h2)
  rw [Bool.or_eq_true] at this
  rcases this with z | z
  · have:=of_decide_eq_true z; omega
  · exact z
theorem eqT60 {K:PySem.W.Frag} {H:Hp} {n:Nat} {t u p q:Addr} {xs:List Str} (ht:SqT K H t [.ref p,.int 4]) (hu:SqT K H u [.ref q,.int 4]) (hp:SqL K H p (xs.map V.str)) (hq:SqL K H q (xs.map V.str)):EqD K H (n + 2) (.ref t) (.ref u) true:=by
  have y:EqD K H (n + 2) (.ref t) (.ref u) ((List.range (min [V.ref p,.int 4].length [V.ref q,.int 4].length)).all (fun _=>true) && [V.ref p,.int 4].length == [V.ref q,.int 4].length):=.tt ht hu fun i x y c1 c2=>by
    match i,c1,c2 with
    | 0,c1,c2 =>
      cases c1
      cases c2
      exact eq_sameB hp hq (fun x hx=>by obtain ⟨c,_,rfl⟩:=List.mem_map.mp hx; rfl)
    | 1,c1,c2 =>
      cases c1
      cases c2
      exact EqD.flat (x:=.int 4) (y:=.int 4) rfl rfl
  exact y
theorem eqR60 {K:PySem.W.Frag} {H:Hp} {n:Nat} {l m:Addr} {ts:List Addr} (hl:SqL K H l (ts.map V.ref)) (hm:SqL K H m (ts.map V.ref)) (h:∀ t∈ts,∃ (q:Addr) (o:List Str),SqT K H t [.ref q,.int 4]∧SqL K H q (o.map V.str)):EqD K H (n + 3) (.ref l) (.ref m) true:=by
  have z:EqD K H (n + 3) (.ref l) (.ref m) ((List.range (ts.map V.ref).length).all fun _=>true):=.ll hl hm rfl fun j x y e1 e2=>by
    rw [e1] at e2
    cases e2
    rw [List.getElem?_map] at e1
    cases ht:ts[j]? with
    | none=>rw [ht] at e1; cases e1
    | some t =>
      rw [ht] at e1
      cases e1
      obtain ⟨q,o,a,b⟩:=h t (List.mem_of_getElem? ht)
      exact eqT60 a a b b
  have e:((List.range (ts.map V.ref).length).all fun _=>true) = true:=List.all_eq_true.mpr fun _ _=>rfl
  rw [e] at z
  exact z
end Sen
namespace K60
open PySem L2
def top (i:Nat):Stmt:=PySem.Challenge.pw_decidebook_k60_orders_refused_and_great.main.body.getD i (.Pass ⟨0,0,0,0⟩)
abbrev S_all_rows:Stmt:=top 14
abbrev p_all_rows:List Str:=["marks"]
theorem sc_all_rows:FnScope ["marks"] p_all_rows (defScope S_all_rows):=fsc (by decide +kernel)
abbrev S_rows_with:Stmt:=top 15
abbrev p_rows_with:List Str:=["place", "marks"]
theorem sc_rows_with:FnScope ["place", "marks", "half", "table", "further"] p_rows_with (defScope S_rows_with):=fsc (by decide +kernel)
abbrev S_flipped:Stmt:=top 16
abbrev p_flipped:List Str:=["table", "place", "marks"]
theorem sc_flipped:FnScope ["table", "place", "marks", "ones", "noughts"] p_flipped (defScope S_flipped):=fsc (by decide +kernel)
abbrev S_held_at:Stmt:=top 17
abbrev p_held_at:List Str:=["table", "place", "value", "marks"]
theorem sc_held_at:FnScope ["table", "place", "value", "marks", "ones", "kept"] p_held_at (defScope S_held_at):=fsc (by decide +kernel)
abbrev S_hangs_on:Stmt:=top 18
abbrev p_hangs_on:List Str:=["table", "place", "marks"]
theorem sc_hangs_on:FnScope ["table", "place", "marks"] p_hangs_on (defScope S_hangs_on):=fsc (by decide +kernel)
abbrev S_first_place:Stmt:=top 19
abbrev p_first_place:List Str:=["table", "marks"]
theorem sc_first_place:FnScope ["table", "marks", "place"] p_first_place (defScope S_first_place):=fsc (by decide +kernel)
abbrev S_without:Stmt:=top 20
abbrev p_without:List Str:=["table", "other"]
theorem sc_without:FnScope ["table", "other"] p_without (defScope S_without):=fsc (by decide +kernel)
abbrev S_chosen:Stmt:=top 21
abbrev p_chosen:List Str:=["where", "low", "high"]
theorem sc_chosen:FnScope ["where", "low", "high"] p_chosen (defScope S_chosen):=fsc (by decide +kernel)
abbrev S_is_mark:Stmt:=top 27
abbrev p_is_mark:List Str:=["letter"]
theorem sc_is_mark:FnScope ["letter"] p_is_mark (defScope S_is_mark):=fsc (by decide +kernel)
abbrev S_is_order:Stmt:=top 28
abbrev p_is_order:List Str:=["order"]
theorem sc_is_order:FnScope ["order"] p_is_order (defScope S_is_order):=fsc (by decide +kernel)
abbrev S_letters_of:Stmt:=top 29
abbrev p_letters_of:List Str:=["sentence"]
theorem sc_letters_of:FnScope ["sentence"] p_letters_of (defScope S_letters_of):=fsc (by decide +kernel)
abbrev S_parts_of:Stmt:=top 30
abbrev p_parts_of:List Str:=["sentence"]
theorem sc_parts_of:FnScope ["sentence"] p_parts_of (defScope S_parts_of):=fsc (by decide +kernel)
abbrev S_parts_of_all:Stmt:=top 31
abbrev p_parts_of_all:List Str:=["level"]
theorem sc_parts_of_all:FnScope ["level", "found", "sentence"] p_parts_of_all (defScope S_parts_of_all):=fsc (by decide +kernel)
abbrev S_is_shaped:Stmt:=top 32
abbrev p_is_shaped:List Str:=["some"]
theorem sc_is_shaped:FnScope ["some", "shape"] p_is_shaped (defScope S_is_shaped):=fsc (by decide +kernel)
abbrev S_is_sentence:Stmt:=top 33
abbrev p_is_sentence:List Str:=["some"]
theorem sc_is_sentence:FnScope ["some", "level", "deep", "tuples"] p_is_sentence (defScope S_is_sentence):=fsc (by decide +kernel)
abbrev S_must_be_order:Stmt:=top 34
abbrev p_must_be_order:List Str:=["order"]
theorem sc_must_be_order:FnScope ["order"] p_must_be_order (defScope S_must_be_order):=fsc (by decide +kernel)
abbrev S_must_be_sentence:Stmt:=top 35
abbrev p_must_be_sentence:List Str:=["some"]
theorem sc_must_be_sentence:FnScope ["some"] p_must_be_sentence (defScope S_must_be_sentence):=fsc (by decide +kernel)
abbrev S_must_have_mark:Stmt:=top 36
abbrev p_must_have_mark:List Str:=["order", "letter"]
theorem sc_must_have_mark:FnScope ["order", "letter"] p_must_have_mark (defScope S_must_have_mark):=fsc (by decide +kernel)
abbrev S_must_have_marks:Stmt:=top 37
abbrev p_must_have_marks:List Str:=["order", "sentence"]
theorem sc_must_have_marks:FnScope ["order", "sentence", "letter"] p_must_have_marks (defScope S_must_have_marks):=fsc (by decide +kernel)
abbrev S_tuples_in:Stmt:=top 38
abbrev p_tuples_in:List Str:=["sentence"]
theorem sc_tuples_in:FnScope ["sentence", "found", "level"] p_tuples_in (defScope S_tuples_in):=fsc (by decide +kernel)
abbrev S_letters_in:Stmt:=top 39
abbrev p_letters_in:List Str:=["sentence"]
theorem sc_letters_in:FnScope ["sentence", "found", "part"] p_letters_in (defScope S_letters_in):=fsc (by decide +kernel)
abbrev S_table_of:Stmt:=top 40
abbrev p_table_of:List Str:=["sentence", "order"]
theorem sc_table_of:FnScope ["sentence", "order", "word", "marks", "tables"] p_table_of (defScope S_table_of):=fsc (by decide +kernel)
abbrev S_table_of_two:Stmt:=top 41
abbrev p_table_of_two:List Str:=["word", "one", "other", "every"]
theorem sc_table_of_two:FnScope ["word", "one", "other", "every"] p_table_of_two (defScope S_table_of_two):=fsc (by decide +kernel)
abbrev S_Book_init:Stmt:=inClass (top 43) 0
abbrev p_Book_init:List Str:=["self", "order"]
theorem sc_Book_init:FnScope ["self", "order", "marks"] p_Book_init (defScope S_Book_init):=fsc (by decide +kernel)
abbrev S_Book_order:Stmt:=inClass (top 43) 1
abbrev p_Book_order:List Str:=["self"]
theorem sc_Book_order:FnScope ["self"] p_Book_order (defScope S_Book_order):=fsc (by decide +kernel)
abbrev S_Book_size:Stmt:=inClass (top 43) 2
abbrev p_Book_size:List Str:=["self"]
theorem sc_Book_size:FnScope ["self"] p_Book_size (defScope S_Book_size):=fsc (by decide +kernel)
abbrev S_Book_enter:Stmt:=inClass (top 43) 3
abbrev p_Book_enter:List Str:=["self", "sentence"]
theorem sc_Book_enter:FnScope ["self", "sentence"] p_Book_enter (defScope S_Book_enter):=fsc (by decide +kernel)
abbrev S_Book_room:Stmt:=inClass (top 43) 4
abbrev p_Book_room:List Str:=["self", "number"]
theorem sc_Book_room:FnScope ["self", "number"] p_Book_room (defScope S_Book_room):=fsc (by decide +kernel)
abbrev S_Book_below:Stmt:=inClass (top 43) 6
abbrev p_Book_below:List Str:=["self", "number"]
theorem sc_Book_below:FnScope ["self", "number", "found", "waiting", "here"] p_Book_below (defScope S_Book_below):=fsc (by decide +kernel)
abbrev S_Book_must_be_room:Stmt:=inClass (top 43) 7
abbrev p_Book_must_be_room:List Str:=["self", "number"]
theorem sc_Book_must_be_room:FnScope ["self", "number"] p_Book_must_be_room (defScope S_Book_must_be_room):=fsc (by decide +kernel)
abbrev S_Book_place_of:Stmt:=inClass (top 43) 8
abbrev p_Book_place_of:List Str:=["self", "number"]
theorem sc_Book_place_of:FnScope ["self", "number"] p_Book_place_of (defScope S_Book_place_of):=fsc (by decide +kernel)
abbrev S_Book_going:Stmt:=inClass (top 43) 9
abbrev p_Book_going:List Str:=["self", "number", "value"]
theorem sc_Book_going:FnScope ["self", "number", "value"] p_Book_going (defScope S_Book_going):=fsc (by decide +kernel)
abbrev S_Book_table_at:Stmt:=inClass (top 43) 11
abbrev p_Book_table_at:List Str:=["self", "number"]
theorem sc_Book_table_at:FnScope ["self", "number"] p_Book_table_at (defScope S_Book_table_at):=fsc (by decide +kernel)
abbrev S_Book_room_with:Stmt:=inClass (top 43) 12
abbrev p_Book_room_with:List Str:=["self", "table"]
theorem sc_Book_room_with:FnScope ["self", "table", "marks", "place", "low", "high"] p_Book_room_with (defScope S_Book_room_with):=fsc (by decide +kernel)
abbrev S_rooms_in:Stmt:=top 46
abbrev p_rooms_in:List Str:=["new", "book", "rooms"]
theorem sc_rooms_in:FnScope ["new", "book", "rooms", "known", "number"] p_rooms_in (defScope S_rooms_in):=fsc (by decide +kernel)
abbrev S_room_in:Stmt:=top 47
abbrev p_room_in:List Str:=["new", "book", "number", "known"]
theorem sc_room_in:FnScope ["new", "book", "number", "known", "told", "order", "where"] p_room_in (defScope S_room_in):=fsc (by decide +kernel)
abbrev S_size_of:Stmt:=top 48
abbrev p_size_of:List Str:=["book", "room"]
theorem sc_size_of:FnScope ["book", "room"] p_size_of (defScope S_size_of):=fsc (by decide +kernel)
abbrev S_all_sizes:Stmt:=top 49
abbrev p_all_sizes:List Str:=["book", "room"]
theorem sc_all_sizes:FnScope ["book", "room"] p_all_sizes (defScope S_all_sizes):=fsc (by decide +kernel)
abbrev S_size_in:Stmt:=top 50
abbrev p_size_in:List Str:=["book", "room", "order"]
theorem sc_size_in:FnScope ["book", "room", "order", "new"] p_size_in (defScope S_size_in):=fsc (by decide +kernel)
abbrev S_all_orders:Stmt:=top 51
abbrev p_all_orders:List Str:=["marks"]
theorem sc_all_orders:FnScope ["marks", "found", "mark", "others"] p_all_orders (defScope S_all_orders):=fsc (by decide +kernel)
abbrev S_best:Stmt:=top 52
abbrev p_best:List Str:=["book", "room"]
theorem sc_best:FnScope ["book", "room"] p_best (defScope S_best):=fsc (by decide +kernel)
abbrev S_x_law_cell_at:Stmt:=top 54
abbrev p_x_law_cell_at:List Str:=["script", "k"]
theorem sc_x_law_cell_at:FnScope ["script", "k"] p_x_law_cell_at (defScope S_x_law_cell_at):=fsc (by decide +kernel)
abbrev S_x_law_draw:Stmt:=top 55
abbrev p_x_law_draw:List Str:=["cell", "k", "bound"]
theorem sc_x_law_draw:FnScope ["cell", "k", "bound", "stir", "left", "j"] p_x_law_draw (defScope S_x_law_draw):=fsc (by decide +kernel)
abbrev S_x_law_order:Stmt:=top 56
abbrev p_x_law_order:List Str:=["cell", "limit"]
theorem sc_x_law_order:FnScope ["cell", "limit", "found", "k"] p_x_law_order (defScope S_x_law_order):=fsc (by decide +kernel)
abbrev S_x_law_sentence:Stmt:=top 57
abbrev p_x_law_sentence:List Str:=["script", "at", "many", "order"]
theorem sc_x_law_sentence:FnScope ["script", "at", "many", "order", "kinds", "made", "k", "cell", "kind", "one", "other", "letter"] p_x_law_sentence (defScope S_x_law_sentence):=fsc (by decide +kernel)
abbrev S_x_law_book:Stmt:=top 58
abbrev p_x_law_book:List Str:=["script", "order"]
theorem sc_x_law_book:FnScope ["script", "order", "book", "k"] p_x_law_book (defScope S_x_law_book):=fsc (by decide +kernel)
abbrev S_x_law_which:Stmt:=top 59
abbrev p_x_law_which:List Str:=["e"]
theorem sc_x_law_which:FnScope ["e", "kinds", "terms"] p_x_law_which (defScope S_x_law_which):=fsc (by decide +kernel)
abbrev S_x_law_is:Stmt:=top 60
abbrev p_x_law_is:List Str:=["told", "word"]
theorem sc_x_law_is:FnScope ["told", "word"] p_x_law_is (defScope S_x_law_is):=fsc (by decide +kernel)
abbrev S_x_law_met:Stmt:=top 61
abbrev p_x_law_met:List Str:=["way", "book", "room"]
theorem sc_x_law_met:FnScope ["way", "book", "room", "told", "e"] p_x_law_met (defScope S_x_law_met):=fsc (by decide +kernel)
abbrev S_law:Stmt:=top 62
abbrev p_law:List Str:=["script"]
theorem sc_law:FnScope ["script", "order", "books", "far", "book", "five", "both", "told", "here", "room", "way"] p_law (defScope S_law):=fsc (by decide +kernel)
def tb_SHAPES:List (Str × Int × Int):=[("yes", 0,0),("no", 0,0),("mark", 1,0),("not", 0,1),("and", 0,2),("or", 0,2),("either", 0,2),("if", 0,2),("some", 1,1),("each", 1,1)]
set_option genInjectivity false in
set_option genSizeOf false in
structure Ad where
  a_all_rows:Addr
  d_all_rows:FuncData
  a_rows_with:Addr
  d_rows_with:FuncData
  a_flipped:Addr
  d_flipped:FuncData
  a_held_at:Addr
  d_held_at:FuncData
  a_hangs_on:Addr
  d_hangs_on:FuncData
  a_first_place:Addr
  d_first_place:FuncData
  a_without:Addr
  d_without:FuncData
  a_chosen:Addr
  d_chosen:FuncData
  a_is_mark:Addr
  d_is_mark:FuncData
  a_is_order:Addr
  d_is_order:FuncData
  a_letters_of:Addr
  d_letters_of:FuncData
  a_parts_of:Addr
  d_parts_of:FuncData
  a_parts_of_all:Addr
  d_parts_of_all:FuncData
  a_is_shaped:Addr
  d_is_shaped:FuncData
  a_is_sentence:Addr
  d_is_sentence:FuncData
  a_must_be_order:Addr
  d_must_be_order:FuncData
  a_must_be_sentence:Addr
  d_must_be_sentence:FuncData
  a_must_have_mark:Addr
  d_must_have_mark:FuncData
  a_must_have_marks:Addr
  d_must_have_marks:FuncData
  a_tuples_in:Addr
  d_tuples_in:FuncData
  a_letters_in:Addr
  d_letters_in:FuncData
  a_table_of:Addr
  d_table_of:FuncData
  a_table_of_two:Addr
  d_table_of_two:FuncData
  a_Book_init:Addr
  d_Book_init:FuncData
  a_Book_order:Addr
  d_Book_order:FuncData
  a_Book_size:Addr
  d_Book_size:FuncData
  a_Book_enter:Addr
  d_Book_enter:FuncData
  a_Book_room:Addr
  d_Book_room:FuncData
  a_Book_below:Addr
  d_Book_below:FuncData
  a_Book_must_be_room:Addr
  d_Book_must_be_room:FuncData
  a_Book_place_of:Addr
  d_Book_place_of:FuncData
  a_Book_going:Addr
  d_Book_going:FuncData
  a_Book_table_at:Addr
  d_Book_table_at:FuncData
  a_Book_room_with:Addr
  d_Book_room_with:FuncData
  a_rooms_in:Addr
  d_rooms_in:FuncData
  a_room_in:Addr
  d_room_in:FuncData
  a_size_of:Addr
  d_size_of:FuncData
  a_all_sizes:Addr
  d_all_sizes:FuncData
  a_size_in:Addr
  d_size_in:FuncData
  a_all_orders:Addr
  d_all_orders:FuncData
  a_best:Addr
  d_best:FuncData
  a_x_law_cell_at:Addr
  d_x_law_cell_at:FuncData
  a_x_law_draw:Addr
  d_x_law_draw:FuncData
  a_x_law_order:Addr
  d_x_law_order:FuncData
  a_x_law_sentence:Addr
  d_x_law_sentence:FuncData
  a_x_law_book:Addr
  d_x_law_book:FuncData
  a_x_law_which:Addr
  d_x_law_which:FuncData
  a_x_law_is:Addr
  d_x_law_is:FuncData
  a_x_law_met:Addr
  d_x_law_met:FuncData
  a_law:Addr
  d_law:FuncData
  a_Book:Addr
  a_BookError:Addr
  a_NoOrder:Addr
  a_NoSentence:Addr
  a_NoMark:Addr
  a_NoRoom:Addr
  a_NoRow:Addr
  a_NoNumber:Addr
  a_NoWeights:Addr
  a_NoShares:Addr
  a_NoCover:Addr
  a_TooGreat:Addr
  a_MARKS:Addr
  t_MOST_TUPLES:Tok
  t_MOST_DEEP:Tok
  a_SHAPES:Addr
  kv_SHAPES:List (Str × Value)
  t_MOST_MARKS:Tok
  cL:Addr
  pL:Addr
structure Txt (P:Program) (w:World) (K:PySem.W.Frag) (mg:Str→Option Value) (a:Ad):Prop where
  m_Book:mg "Book" = some (.ref a.a_Book)
  m_BookError:mg "BookError" = some (.ref a.a_BookError)
  m_NoOrder:mg "NoOrder" = some (.ref a.a_NoOrder)
  m_NoSentence:mg "NoSentence" = some (.ref a.a_NoSentence)
  m_NoMark:mg "NoMark" = some (.ref a.a_NoMark)
  m_NoRoom:mg "NoRoom" = some (.ref a.a_NoRoom)
  m_NoRow:mg "NoRow" = some (.ref a.a_NoRow)
  m_NoNumber:mg "NoNumber" = some (.ref a.a_NoNumber)
  m_NoWeights:mg "NoWeights" = some (.ref a.a_NoWeights)
  m_NoShares:mg "NoShares" = some (.ref a.a_NoShares)
  m_NoCover:mg "NoCover" = some (.ref a.a_NoCover)
  m_TooGreat:mg "TooGreat" = some (.ref a.a_TooGreat)
  f_all_rows:Df K mg "all_rows" S_all_rows a.a_all_rows a.d_all_rows p_all_rows
  f_rows_with:Df K mg "rows_with" S_rows_with a.a_rows_with a.d_rows_with p_rows_with
  f_flipped:Df K mg "flipped" S_flipped a.a_flipped a.d_flipped p_flipped
  f_held_at:Df K mg "held_at" S_held_at a.a_held_at a.d_held_at p_held_at
  f_hangs_on:Df K mg "hangs_on" S_hangs_on a.a_hangs_on a.d_hangs_on p_hangs_on
  f_first_place:Df K mg "first_place" S_first_place a.a_first_place a.d_first_place p_first_place
  f_without:Df K mg "without" S_without a.a_without a.d_without p_without
  f_chosen:Df K mg "chosen" S_chosen a.a_chosen a.d_chosen p_chosen
  f_is_mark:Df K mg "is_mark" S_is_mark a.a_is_mark a.d_is_mark p_is_mark
  f_is_order:Df K mg "is_order" S_is_order a.a_is_order a.d_is_order p_is_order
  f_letters_of:Df K mg "letters_of" S_letters_of a.a_letters_of a.d_letters_of p_letters_of
  f_parts_of:Df K mg "parts_of" S_parts_of a.a_parts_of a.d_parts_of p_parts_of
  f_parts_of_all:Df K mg "parts_of_all" S_parts_of_all a.a_parts_of_all a.d_parts_of_all p_parts_of_all
  f_is_shaped:Df K mg "is_shaped" S_is_shaped a.a_is_shaped a.d_is_shaped p_is_shaped
  f_is_sentence:Df K mg "is_sentence" S_is_sentence a.a_is_sentence a.d_is_sentence p_is_sentence
  f_must_be_order:Df K mg "must_be_order" S_must_be_order a.a_must_be_order a.d_must_be_order p_must_be_order
  f_must_be_sentence:Df K mg "must_be_sentence" S_must_be_sentence a.a_must_be_sentence a.d_must_be_sentence p_must_be_sentence
  f_must_have_mark:Df K mg "must_have_mark" S_must_have_mark a.a_must_have_mark a.d_must_have_mark p_must_have_mark
  f_must_have_marks:Df K mg "must_have_marks" S_must_have_marks a.a_must_have_marks a.d_must_have_marks p_must_have_marks
  f_tuples_in:Df K mg "tuples_in" S_tuples_in a.a_tuples_in a.d_tuples_in p_tuples_in
  f_letters_in:Df K mg "letters_in" S_letters_in a.a_letters_in a.d_letters_in p_letters_in
  f_table_of:Df K mg "table_of" S_table_of a.a_table_of a.d_table_of p_table_of
  f_table_of_two:Df K mg "table_of_two" S_table_of_two a.a_table_of_two a.d_table_of_two p_table_of_two
  f_rooms_in:Df K mg "rooms_in" S_rooms_in a.a_rooms_in a.d_rooms_in p_rooms_in
  f_room_in:Df K mg "room_in" S_room_in a.a_room_in a.d_room_in p_room_in
  f_size_of:Df K mg "size_of" S_size_of a.a_size_of a.d_size_of p_size_of
  f_all_sizes:Df K mg "all_sizes" S_all_sizes a.a_all_sizes a.d_all_sizes p_all_sizes
  f_size_in:Df K mg "size_in" S_size_in a.a_size_in a.d_size_in p_size_in
  f_all_orders:Df K mg "all_orders" S_all_orders a.a_all_orders a.d_all_orders p_all_orders
  f_best:Df K mg "best" S_best a.a_best a.d_best p_best
  f_x_law_cell_at:Df K mg "_law_cell_at" S_x_law_cell_at a.a_x_law_cell_at a.d_x_law_cell_at p_x_law_cell_at
  f_x_law_draw:Df K mg "_law_draw" S_x_law_draw a.a_x_law_draw a.d_x_law_draw p_x_law_draw
  f_x_law_order:Df K mg "_law_order" S_x_law_order a.a_x_law_order a.d_x_law_order p_x_law_order
  f_x_law_sentence:Df K mg "_law_sentence" S_x_law_sentence a.a_x_law_sentence a.d_x_law_sentence p_x_law_sentence
  f_x_law_book:Df K mg "_law_book" S_x_law_book a.a_x_law_book a.d_x_law_book p_x_law_book
  f_x_law_which:Df K mg "_law_which" S_x_law_which a.a_x_law_which a.d_x_law_which p_x_law_which
  f_x_law_is:Df K mg "_law_is" S_x_law_is a.a_x_law_is a.d_x_law_is p_x_law_is
  f_x_law_met:Df K mg "_law_met" S_x_law_met a.a_x_law_met a.d_x_law_met p_x_law_met
  f_law:Df K mg "law" S_law a.a_law a.d_law p_law
  f_Book_init:Dm K a.a_Book "__init__" "Book.__init__" S_Book_init a.a_Book_init a.d_Book_init p_Book_init
  f_Book_order:Dm K a.a_Book "order" "Book.order" S_Book_order a.a_Book_order a.d_Book_order p_Book_order
  f_Book_size:Dm K a.a_Book "size" "Book.size" S_Book_size a.a_Book_size a.d_Book_size p_Book_size
  f_Book_enter:Dm K a.a_Book "enter" "Book.enter" S_Book_enter a.a_Book_enter a.d_Book_enter p_Book_enter
  f_Book_room:Dm K a.a_Book "room" "Book.room" S_Book_room a.a_Book_room a.d_Book_room p_Book_room
  f_Book_below:Dm K a.a_Book "below" "Book.below" S_Book_below a.a_Book_below a.d_Book_below p_Book_below
  f_Book_must_be_room:Dm K a.a_Book "must_be_room" "Book.must_be_room" S_Book_must_be_room a.a_Book_must_be_room a.d_Book_must_be_room p_Book_must_be_room
  f_Book_place_of:Dm K a.a_Book "place_of" "Book.place_of" S_Book_place_of a.a_Book_place_of a.d_Book_place_of p_Book_place_of
  f_Book_going:Dm K a.a_Book "going" "Book.going" S_Book_going a.a_Book_going a.d_Book_going p_Book_going
  f_Book_table_at:Dm K a.a_Book "table_at" "Book.table_at" S_Book_table_at a.a_Book_table_at a.d_Book_table_at p_Book_table_at
  f_Book_room_with:Dm K a.a_Book "room_with" "Book.room_with" S_Book_room_with a.a_Book_room_with a.d_Book_room_with p_Book_room_with
  c_Book:Cls K a.a_Book
  mk_Book:Mk K a.a_Book a.a_Book_init
  na_Book_marks:NoAttr K a.a_Book "marks"
  na_Book_rooms:NoAttr K a.a_Book "rooms"
  na_Book_tables:NoAttr K a.a_Book "tables"
  na_Book_numbers:NoAttr K a.a_Book "numbers"
  ac_NoOrder:AskC K a.a_NoOrder
  ac_NoSentence:AskC K a.a_NoSentence
  ac_NoMark:AskC K a.a_NoMark
  ac_NoRoom:AskC K a.a_NoRoom
  ac_NoRow:AskC K a.a_NoRow
  ac_NoNumber:AskC K a.a_NoNumber
  ac_NoWeights:AskC K a.a_NoWeights
  ac_NoShares:AskC K a.a_NoShares
  ac_NoCover:AskC K a.a_NoCover
  ac_TooGreat:AskC K a.a_TooGreat
  xc_NoOrder:ExcC K a.a_BookError a.a_NoOrder
  xc_NoSentence:ExcC K a.a_BookError a.a_NoSentence
  xc_NoMark:ExcC K a.a_BookError a.a_NoMark
  xc_NoRoom:ExcC K a.a_BookError a.a_NoRoom
  xc_TooGreat:ExcC K a.a_BookError a.a_TooGreat
  xb:ExcB K a.a_BookError
  xd:[a.a_BookError,a.a_NoOrder,a.a_NoSentence,a.a_NoMark,a.a_NoRoom,a.a_NoRow,a.a_NoNumber,a.a_NoWeights,a.a_NoShares,a.a_NoCover,a.a_TooGreat].Nodup
  n_ValueError:mg "ValueError" = none
  m_MARKS:mg "MARKS" = some (.ref a.a_MARKS)
  q_MARKS:∀ H,SqT K H a.a_MARKS ((["a", "b", "c", "d", "e", "f", "g", "h"]:List Str).map V.str)
  m_MOST_TUPLES:mg "MOST_TUPLES" = some (.int 200 a.t_MOST_TUPLES)
  m_MOST_DEEP:mg "MOST_DEEP" = some (.int 24 a.t_MOST_DEEP)
  m_SHAPES:mg "SHAPES" = some (.ref a.a_SHAPES)
  h_SHAPES:Shp K P w a.a_SHAPES a.kv_SHAPES tb_SHAPES
  m_MOST_MARKS:mg "MOST_MARKS" = some (.int 5 a.t_MOST_MARKS)
  lam:LamD K "best" a.d_best a.cL a.pL
  n_all:mg "all" = none
  n_isinstance:mg "isinstance" = none
  n_len:mg "len" = none
  n_list:mg "list" = none
  n_min:mg "min" = none
  n_range:mg "range" = none
  n_set:mg "set" = none
  n_sorted:mg "sorted" = none
  n_str:mg "str" = none
  n_tuple:mg "tuple" = none
abbrev tbL:HO:=tabL 245 42 ((("best" : Str) ++ ".<locals>.") ++ "<lambda>")
theorem x_law {K:PySem.W.Frag} {mg:Str→Option Value} {f:Addr} {d:FuncData} (F:Df K mg "law" S_law f d p_law):∀ (s:Shared) (u:Value),BindsTo s d ⟨[u],[]⟩ [("script", u)]:=by
  obtain ⟨_,_,_,_,_,_,_,_,_,rfl,_,_⟩:=F.F.ex
  exact fun s u=>.of_eq rfl
theorem ex_mk {P:Program} {w:World} {K:PySem.W.Frag} {mg:Str→Option Value} {x0 x2 x4 x6 x8 x10 x12 x14 x16 x18 x20 x22 x24 x26 x28 x30 x32 x34 x36 x38 x40 x42 x44 x46 x48 x50 x52 x54 x56 x58 x60 x62 x64 x66 x68 x70 x72 x74 x76 x78 x80 x82 x84 x86 x88 x90 x92 x94 x96 x98 x100 x101 x102 x103 x104 x105 x106 x107 x108 x109 x110 x111 x112 x115 x118 x119:Addr} {x1 x3 x5 x7 x9 x11 x13 x15 x17 x19 x21 x23 x25 x27 x29 x31 x33 x35 x37 x39 x41 x43 x45 x47 x49 x51 x53 x55 x57 x59 x61 x63 x65 x67 x69 x71 x73 x75 x77 x79 x81 x83 x85 x87 x89 x91 x93 x95 x97 x99:FuncData} {x113 x114 x117:Tok} {x116:List (Str × Value)} (t:Txt P w K mg ⟨x0,x1,x2,x3,x4,x5,x6,x7,x8,x9,x10,x11,x12,x13,x14,x15,x16,x17,x18,x19,x20,x21,x22,x23,x24,x25,x26,x27,x28,x29,x30,x31,x32,x33,x34,x35,x36,x37,x38,x39,x40,x41,x42,x43,x44,x45,x46,x47,x48,x49,x50,x51,x52,x53,x54,x55,x56,x57,x58,x59,x60,x61,x62,x63,x64,x65,x66,x67,x68,x69,x70,x71,x72,x73,x74,x75,x76,x77,x78,x79,x80,x81,x82,x83,x84,x85,x86,x87,x88,x89,x90,x91,x92,x93,x94,x95,x96,x97,x98,x99,x100,x101,x102,x103,x104,x105,x106,x107,x108,x109,x110,x111,x112,x113,x114,x115,x116,x117,x118,x119⟩):∃ a,Txt P w K mg a:=⟨_,t⟩
end K60
namespace K60
open PySem L2 Sen
section
variable {P:Program} {w:World} {K:PySem.W.Frag} {mg:Str→Option Value} {base:Heap} {a:Ad} {k:Nat}
theorem ok_all_rows (T:Txt P w K mg a):FnOk P w K mg base CX0 (k + 1) a.a_all_rows a.d_all_rows p_all_rows spAllRows:=by
  refine T.f_all_rows.F.ok sc_all_rows (fun vs H Q E h=>?_) (fun cdv A outer s H vs Q E hr h=>?_)
  · obtain ⟨n,rfl,_⟩:=h
    rfl
  obtain ⟨n,rfl,hn,q⟩:=h
  refine ⟨_,(pss_one (ps_ret (pe_op op_sub (pe_op op_shlN pe_int (pe_op op_shlN pe_int (pv 0))) pe_int))),?_⟩
  have h1:=two8 hn
  have one:1 < 2 ^ 10000:=lt10k (k:=1) (by decide) (by decide)
  refine ⟨_,rfl,1,n,rfl,rfl,one,by omega,1,1 * 2 ^ n,rfl,rfl,one,by omega,_,1,rfl,rfl,?_⟩
  have e:(((1 * 2 ^ (1 * 2 ^ n):Nat):Int) - 1) = ((2 ^ 2 ^ n - 1:Nat):Int):=by
    rw [Nat.one_mul,Nat.one_mul]
    have:=Nat.two_pow_pos (2 ^ n)
    omega
  show Q (.int (((1 * 2 ^ (1 * 2 ^ n):Nat):Int) - 1)) H
  rw [e]
  exact q
theorem ok_rows_with (T:Txt P w K mg a):FnOk P w K mg base CX0 (k + 1) a.a_rows_with a.d_rows_with p_rows_with spRowsWith:=by
  refine T.f_rows_with.F.ok sc_rows_with (fun vs H Q E h=>?_) (fun cdv A outer s H vs Q E hr h=>?_)
  · obtain ⟨p,n,rfl,_⟩:=h
    rfl
  obtain ⟨p,n,rfl,hp,hn,q⟩:=h
  refine ⟨_,(pss_cons (ps_setA 2 sc_rows_with.nd (pe_op op_shlN pe_int (pv 0)))
      (pss_cons (ps_setA 3 sc_rows_with.nd (pe_op op_shlN (pe_op op_sub (pe_op op_shlN pe_int (pv 2)) pe_int) (pv 2)))
      (pss_cons (ps_for PassesOwn.never rfl (pi_range2 rfl T.n_range (pa_cons (pe_op op_add (pv 0) pe_int) (pa_cons (pv 1) pa_nil))) (pg_name (i:=4) sc_rows_with.nd rfl (Or.inl rfl)) (pss_one (ps_setA 3 sc_rows_with.nd (pe_op op_orN (pv 3) (pe_op op_shlN (pv 3) (pe_op op_shlN pe_int (pv 4)))))))
      (pss_one (ps_ret (pv 3)))))),?_⟩
  have one:1 < 2 ^ 10000:=lt10k (k:=1) (by decide) (by decide)
  have h1:=two8 (n:=p) (by omega)
  have hh:2 ^ p < 2 ^ 10000:=Nat.pow_lt_pow_right (by decide) (by omega)
  have pp:=Nat.two_pow_pos (2 ^ p)
  have e1:((1 * 2 ^ (1 * 2 ^ p):Nat):Int) - 1 = ((2 ^ 2 ^ p - 1:Nat):Int):=by
    rw [Nat.one_mul,Nat.one_mul]
    omega
  have lt1:2 ^ 2 ^ p - 1 < 2 ^ 10000:=Nat.lt_of_lt_of_le (Nat.sub_lt pp (by decide)) (Nat.pow_le_pow_right (by decide) (by omega))
  refine ⟨_,rfl,1,p,rfl,rfl,one,by omega,?_⟩
  refine ⟨_,rfl,1,1 * 2 ^ p,rfl,rfl,one,by omega,_,1,rfl,rfl,_,rfl,2 ^ 2 ^ p - 1,1 * 2 ^ p,congrArg V.int e1,rfl,lt1,by omega,?_⟩
  refine ⟨_,rfl,_,1,rfl,rfl,_,rfl,(p:Int) + 1,(n:Int),rfl,⟨by omega,by omega,by omega,by omega⟩,?_⟩
  refine for_range (fun i σ H'=>H' = H∧∃ (N:Nat) (f:Option V),σ = [some (.int p),some (.int n),some (.int ((1 * 2 ^ p:Nat):Int)),some (.int N),f]∧IsTab (p + 1 + i) N (fun b=>b.testBit p)) ⟨rfl,_,_,rfl,?_⟩ ?_ ?_
  · rw [Nat.one_mul]
    exact tab_block p
  · rintro i σ H' hi ⟨rfl,N,f,rfl,tb⟩
    have hi':p + 1 + i < n:=by omega
    have h2:=two8 (n:=p + 1 + i) (by omega)
    have e2:V.int ((p:Int) + 1 + (i:Nat)) = V.int ((p + 1 + i:Nat):Int):=congrArg V.int (by omega)
    have lt2:N < 2 ^ 10000:=lt10k (tab_lt tb) (Nat.le_trans h2 (by decide))
    refine ⟨_,rfl,_,rfl,_,rfl,1,p + 1 + i,rfl,e2,one,by omega,N,1 * 2 ^ (p + 1 + i),rfl,rfl,lt2,by omega,N,N * 2 ^ (1 * 2 ^ (p + 1 + i)),rfl,rfl,?_⟩
    refine ⟨rfl,_,_,rfl,?_⟩
    rw [Nat.one_mul]
    exact tab_double (m:=p + 1 + i) (by omega) tb
  · rintro σ H' ⟨rfl,N,f,rfl,tb⟩
    have e3:p + 1 + ((n:Int) - ((p:Int) + 1)).toNat = n:=by omega
    rw [e3] at tb
    exact ⟨_,rfl,q N tb⟩
theorem ok_flipped (T:Txt P w K mg a) (G_rows_with:FnOk P w K mg base CX0 k a.a_rows_with a.d_rows_with p_rows_with spRowsWith):FnOk P w K mg base CX0 (k + 1) a.a_flipped a.d_flipped p_flipped spFlipped:=by
  refine T.f_flipped.F.ok sc_flipped (fun vs H Q E h=>?_) (fun cdv A outer s H vs Q E hr h=>?_)
  · obtain ⟨N,p,n,f,rfl,_⟩:=h
    rfl
  obtain ⟨N,p,n,f,rfl,hp,hn,tb,q⟩:=h
  refine ⟨_,(pss_cons (ps_setA 3 sc_flipped.nd (pe_op op_andN (pv 0) (pe_callD G_rows_with hr T.f_rows_with (pa_cons (pv 1) (pa_cons (pv 2) pa_nil)))))
      (pss_cons (ps_setA 4 sc_flipped.nd (pe_op op_xorN (pv 0) (pv 3)))
      (pss_one (ps_ret (pe_op op_orN (pe_op op_shrN (pv 3) (pe_op op_shlN pe_int (pv 1))) (pe_op op_shlN (pv 4) (pe_op op_shlN pe_int (pv 1)))))))),?_⟩
  have one:1 < 2 ^ 10000:=lt10k (k:=1) (by decide) (by decide)
  have h1:=two8 (n:=p) (by omega)
  have h2:=two8 (n:=n) (by omega)
  refine ⟨_,rfl,_,rfl,_,rfl,p,n,rfl,hp,hn,fun R tr=>?_⟩
  refine ⟨N,R,rfl,rfl,?_⟩
  refine ⟨_,rfl,_,rfl,N,N &&& R,rfl,rfl,?_⟩
  have o:=tab_and tb tr
  have z:=tab_xor tb o
  have lt2:N ^^^ (N &&& R) < 2 ^ 10000:=lt10k (tab_lt z) (Nat.le_trans h2 (by decide))
  refine ⟨_,rfl,_,rfl,1,p,rfl,rfl,one,by omega,N &&& R,1 * 2 ^ p,rfl,rfl,_,rfl,_,rfl,1,p,rfl,rfl,one,by omega,N ^^^ (N &&& R),1 * 2 ^ p,rfl,rfl,lt2,by omega,_,_,rfl,rfl,?_⟩
  refine q _ ?_
  rw [Nat.one_mul]
  exact tab_flip hp tb tr
theorem ok_cell_at (T:Txt P w K mg a):FnOk P w K mg base CX0 (k + 1) a.a_x_law_cell_at a.d_x_law_cell_at p_x_law_cell_at (spCellAt K):=by
  refine T.f_x_law_cell_at.F.ok sc_x_law_cell_at (fun vs H Q E h=>?_) (fun cdv A outer s H vs Q E hr h=>?_)
  · obtain ⟨l,ns,i,rfl,_⟩:=h
    rfl
  obtain ⟨l,ns,i,rfl,hS,h0,q⟩:=h
  refine ⟨_,(pss_cons (ps_if (pt_cmpR op_lt (pv 1) (pe_callB call_len_seq rfl T.n_len bt_len (pa_cons (pv 0) pa_nil)) (nomark _)) (pss_one (ps_ret (pe_ix ix_list (pv 0) (pv 1) (fun _ _=>rfl)))) pss_nil)
      (pss_one (ps_ret pe_int))),?_⟩
  refine ⟨_,rfl,_,rfl,l,_,rfl,.inl hS,_,_,rfl,rfl,_,rfl,?_⟩
  refine ite2 (fun c=>?_) (fun c=>?_)
  · have c':i < (((ns.map V.int).length:Nat):Int):=of_decide_eq_true c
    rw [List.length_map] at c'
    have hi:i.toNat < ns.length:=by omega
    have e:atI (ns.map V.int) i = some (.int ns[i.toNat]):=by
      have q:=atI_nat (xs:=ns.map V.int) (j:=i.toNat) (v:=.int ns[i.toNat]) (by rw [List.getElem?_map,List.getElem?_eq_getElem hi]; rfl)
      have ei:((i.toNat:Nat):Int) = i:=by omega
      rw [ei] at q
      exact q
    exact ⟨_,rfl,_,rfl,l,_,i,_,rfl,rfl,hS,e,q _⟩
  · exact q 0
theorem ok_draw (T:Txt P w K mg a):FnOk P w K mg base CX0 (k + 1) a.a_x_law_draw a.d_x_law_draw p_x_law_draw spDraw:=by
  refine T.f_x_law_draw.F.ok sc_x_law_draw (fun vs H Q E h=>?_) (fun cdv A outer s H vs Q E hr h=>?_)
  · obtain ⟨c,m,b,rfl,_⟩:=h
    rfl
  obtain ⟨c,m,b,rfl,hm,b0,b1,q⟩:=h
  refine ⟨_,(pss_cons (ps_if (pt_cmpR op_ge (pv 0) (pe_op op_pow pe_int pe_int) (nomark _)) (pss_cons (ps_setA 4 sc_x_law_draw.nd (pv 0))
      (pss_cons (ps_for PassesOwn.never rfl (pi_range1 rfl T.n_range (pa_cons (pv 1) pa_nil)) (pg_name (i:=5) sc_x_law_draw.nd rfl (Or.inl rfl)) (pss_one (ps_setA 4 sc_x_law_draw.nd (pe_op op_fdiv (pv 4) (pv 2)))))
      (pss_one (ps_ret (pe_op op_mod (pv 4) (pv 2)))))) pss_nil)
      (pss_cons (ps_setA 3 sc_x_law_draw.nd (pe_op op_mod (pe_op op_mul (pe_op op_add (pe_op op_add (pe_op op_mod (pv 0) pe_int) (pe_op op_mul pe_int (pv 1))) pe_int) pe_int) pe_int))
      (pss_cons (ps_setA 3 sc_x_law_draw.nd (pe_op op_mod (pe_op op_add (pe_op op_add (pe_op op_mul (pv 3) (pv 3)) (pe_op op_mul pe_int (pv 1))) pe_int) pe_int))
      (pss_one (ps_ret (pe_op op_mod (pe_op op_fdiv (pe_op op_mod (pe_op op_mul (pv 3) pe_int) pe_int) pe_int) (pv 2))))))),?_⟩
  refine ⟨_,rfl,10,18,rfl,rfl,⟨by decide,by decide,by decide⟩,_,_,rfl,rfl,_,rfl,?_⟩
  refine ite2 (fun _=>?_) (fun _=>?_)
  · refine ⟨_,rfl,?_⟩
    refine ⟨_,rfl,(m:Int),rfl,by omega,by omega,?_⟩
    refine for_range (fun i σ H'=>H' = H∧∃ (x:Int) (f1 f2:Option V),σ = [some (.int c),some (.int m),some (.int b),f1,some (.int x),f2]) ⟨rfl,c,_,_,rfl⟩ ?_ ?_
    · rintro i σ H' hi ⟨rfl,x,f1,f2,rfl⟩
      refine ⟨_,rfl,_,rfl,x,b,rfl,rfl,⟨b0,b1⟩,?_⟩
      exact ⟨rfl,x / b,_,_,rfl⟩
    · rintro σ H' ⟨rfl,x,f1,f2,rfl⟩
      refine ⟨_,rfl,_,rfl,x,b,rfl,rfl,b0,?_⟩
      exact q _ (Int.emod_nonneg _ (by omega)) (Int.emod_lt_of_pos _ b0)
  · have p1:(0:Int) < 1000000007:=by decide
    have p2:(0:Int) < 2147483647:=by decide
    have p3:(0:Int) < 2147483629:=by decide
    refine ⟨_,rfl,c,1000000007,rfl,rfl,p1,_,rfl,1009,(m:Int),rfl,rfl,.inl ⟨by decide,by decide⟩,_,_,rfl,rfl,_,17,rfl,rfl,_,69621,rfl,rfl,.inr ⟨by decide,by decide⟩,_,2147483647,rfl,rfl,p2,?_⟩
    have z0:0≤(c % 1000000007 + 1009 * (m:Int) + 17) * 69621 % 2147483647:=Int.emod_nonneg _ (by decide)
    have z1:(c % 1000000007 + 1009 * (m:Int) + 17) * 69621 % 2147483647 < 2147483647:=Int.emod_lt_of_pos _ p2
    refine ⟨_,rfl,_,rfl,_,_,rfl,rfl,.inl ⟨Int.lt_of_lt_of_le (by decide) z0,Int.lt_trans z1 (by decide)⟩,_,rfl,40503,(m:Int),rfl,rfl,.inl ⟨by decide,by decide⟩,_,_,rfl,rfl,_,5,rfl,rfl,_,2147483629,rfl,rfl,p3,?_⟩
    refine ⟨_,rfl,_,48271,rfl,rfl,.inr ⟨by decide,by decide⟩,_,2147483647,rfl,rfl,p2,_,32,rfl,rfl,⟨by decide,by decide⟩,_,rfl,_,b,rfl,rfl,b0,?_⟩
    exact q _ (Int.emod_nonneg _ (by omega)) (Int.emod_lt_of_pos _ b0)
theorem ok_order (T:Txt P w K mg a) (G_x_law_draw:FnOk P w K mg base CX0 k a.a_x_law_draw a.d_x_law_draw p_x_law_draw spDraw):FnOk P w K mg base CX0 (k + 1) a.a_x_law_order a.d_x_law_order p_x_law_order spOrder:=by
  refine T.f_x_law_order.F.ok sc_x_law_order (fun vs H Q E h=>?_) (fun cdv A outer s H vs Q E hr h=>?_)
  · obtain ⟨c,n,rfl,_⟩:=h
    rfl
  obtain ⟨c,n,rfl,hn,h8,q⟩:=h
  refine ⟨_,(pss_cons (ps_setA 2 sc_x_law_order.nd (pe_lst pa_nil))
      (pss_cons (ps_for PassesOwn.never rfl (pi_range1 rfl T.n_range (pa_cons (pe_op op_add pe_int (pe_callD G_x_law_draw hr T.f_x_law_draw (pa_cons (pv 0) (pa_cons pe_int (pa_cons (pv 1) pa_nil))))) pa_nil)) (pg_name (i:=3) sc_x_law_order.nd rfl (Or.inl rfl)) (pss_one (ps_expr (pe_bm PySem.F.plainAttrs_list PySem.F.slot_list_insert PySem.F.type_list_insert mt_insert (pv 2) (pa_cons (pe_op op_mod (pe_callD G_x_law_draw hr T.f_x_law_draw (pa_cons (pv 0) (pa_cons (pe_op op_add pe_int (pv 3)) (pa_cons pe_int pa_nil)))) (pe_op op_add (pv 3) pe_int)) (pa_cons (pe_ix ix_str pe_str (pv 3) (fun _ _=>rfl)) pa_nil))))))
      (pss_one (ps_ret (pv 2))))),?_⟩
  refine ⟨by show 0≤sizeLine; decide,fun l hl=>?_⟩
  refine ⟨_,rfl,_,rfl,c,0,(n:Int),rfl,by decide,by omega,by omega,fun r r0 r1=>?_⟩
  refine ⟨1,r,rfl,rfl,1 + r,rfl,by omega,by omega,?_⟩
  refine for_range (fun i σ H'=>∃ (os:List Str) (f1:Option V),Same H H'∧H' l = some (.lst (os.map V.str))∧os.Nodup∧os.length = i∧(∀ x∈os,x∈letts.take i)∧σ = [some (.int c),some (.int n),some (.ref l),f1])
    ⟨[],_,same_new hl _,upd_same,List.nodup_nil,rfl,(fun _ h=>nomatch h),rfl⟩ ?_ ?_
  · rintro i σ H' hi ⟨os,f1,g,hl',nd,le,mem,rfl⟩
    have i8:i < 8:=by omega
    obtain ⟨ch,hc1,hc2⟩:=lett_at i8
    have e1:(1:Int) + (0 + (i:Nat)) = ((1 + i:Nat):Int):=by omega
    have e2:(0:Int) + (i:Nat) = ((i:Nat):Int):=by omega
    refine ⟨_,rfl,.inl ⟨rfl,_,SqL.of hl'⟩,?_⟩
    refine ⟨_,rfl,_,rfl,1,_,rfl,rfl,c,1 + i,5040,congrArg (fun z=>[V.int c,V.int z,V.int 5040]) e1,by omega,by decide,by decide,fun r' s0 s1=>?_⟩
    refine ⟨_,rfl,_,1,rfl,rfl,r',_,rfl,rfl,by show (0:Int) < 0 + (i:Nat) + 1; omega,?_⟩
    refine ⟨_,rfl,_,(i:Int),ch,rfl,congrArg V.int e2,by show (Str.ofString "abcdefgh").length≤sizeLine; decide,hc1,?_⟩
    have m0:0≤r' % (0 + (i:Nat) + 1):=Int.emod_nonneg _ (by omega)
    have m1:r' % (0 + (i:Nat) + 1) < 0 + (i:Nat) + 1:=Int.emod_lt_of_pos _ (by omega)
    generalize hj:r' % (0 + ((i:Nat):Int) + 1) = j at m0 m1
    refine ⟨l,os.map V.str,j,_,rfl,by rw [← hj],hl',m0,by rw [List.length_map]; omega,by rw [List.length_map]; exact Nat.lt_of_lt_of_le (show os.length < 9 by omega) (by decide),?_⟩
    have nm:(⟨#[ch]⟩:Str) ∉ os:=fun hm=>lett_new hc2 (mem _ hm)
    have ml:∀ x∈letts.take i,x∈letts.take (i + 1):=fun x hx=>by
      rw [List.take_succ]
      exact List.mem_append_left _ hx
    have mn:(⟨#[ch]⟩:Str)∈letts.take (i + 1):=by
      rw [List.take_succ,hc2]
      exact List.mem_append_right _ (by simp)
    refine ⟨os.take j.toNat ++ (⟨#[ch]⟩:Str) :: os.drop j.toNat,_,?_,?_,?_,?_,?_,rfl⟩
    · exact fun b o hb=>by rw [upd_ne (ne_of_none hb hl)]; exact g b o hb
    · rw [upd_same]
      simp
    · refine List.perm_middle.nodup_iff.mpr (List.nodup_cons.mpr ⟨?_,?_⟩)
      · rw [List.take_append_drop]; exact nm
      · rw [List.take_append_drop]; exact nd
    · rw [List.length_append,List.length_cons,List.length_take,List.length_drop]
      omega
    · intro x hx
      rcases List.mem_append.mp hx with z | z
      · exact ml x (mem x (List.mem_of_mem_take z))
      · rcases List.mem_cons.mp z with z | z
        · rw [z]; exact mn
        · exact ml x (mem x (List.mem_of_mem_drop z))
  · rintro σ H' ⟨os,f1,g,hl',nd,le,mem,rfl⟩
    refine ⟨_,rfl,q l H' os g hl' ⟨nd,fun x hx=>List.mem_of_mem_take (mem x hx),by omega⟩ (by omega)⟩
theorem ok_sentence (T:Txt P w K mg a) (G_x_law_cell_at:FnOk P w K mg base CX0 k a.a_x_law_cell_at a.d_x_law_cell_at p_x_law_cell_at (spCellAt K)) (G_x_law_draw:FnOk P w K mg base CX0 k a.a_x_law_draw a.d_x_law_draw p_x_law_draw spDraw) :
    FnOk P w K mg base CX0 (k + 1) a.a_x_law_sentence a.d_x_law_sentence p_x_law_sentence (spSentence K):=by
  refine T.f_x_law_sentence.F.ok sc_x_law_sentence (fun vs H Q E h=>?_) (fun cdv A outer s H vs Q E hr h=>?_)
  · obtain ⟨sc,ol,ns,t,m,os,rfl,_⟩:=h
    rfl
  obtain ⟨sc,ol,ns,t,m,os,rfl,hS,hO,o0,o8,m0,m40,t60,q⟩:=h
  obtain ⟨st0,h0⟩:∃ st0,st0 = (defBody S_x_law_sentence).headD (.Pass ⟨0,0,0,0⟩):=⟨_,rfl⟩
  have hb:defBody S_x_law_sentence = st0 :: (defBody S_x_law_sentence).tail:=by rw [h0]; rfl
  rw [hb]
  have hk:litAsg st0 = some (Str.ofString "kinds", kindsS):=by rw [h0]; rfl
  refine ⟨_,pss_cons (ps_litL (i:=4) hk sc_x_law_sentence.nd rfl (Or.inl rfl) (.inl rfl)) (pss_cons (ps_setA 5 sc_x_law_sentence.nd (pe_lst (pa_cons (pe_tup (pa_cons pe_str (pa_cons (pe_ix ix_list (pv 3) (pe_op op_mod (pe_callD G_x_law_draw hr T.f_x_law_draw (pa_cons (pe_callD G_x_law_cell_at hr T.f_x_law_cell_at (pa_cons (pv 0) (pa_cons (pv 1) pa_nil))) (pa_cons pe_int (pa_cons pe_int pa_nil)))) (pe_callB call_len_seq rfl T.n_len bt_len (pa_cons (pv 3) pa_nil))) (fun _ _=>rfl)) pa_nil))) pa_nil)))
      (pss_cons (ps_for PassesOwn.never rfl (pi_range2 rfl T.n_range (pa_cons pe_int (pa_cons (pv 2) pa_nil))) (pg_name (i:=6) sc_x_law_sentence.nd rfl (Or.inl rfl)) (pss_cons (ps_setA 7 sc_x_law_sentence.nd (pe_callD G_x_law_cell_at hr T.f_x_law_cell_at (pa_cons (pv 0) (pa_cons (pe_op op_add (pv 1) (pv 6)) pa_nil))))
      (pss_cons (ps_setA 8 sc_x_law_sentence.nd (pe_ix ix_list (pv 4) (pe_callD G_x_law_draw hr T.f_x_law_draw (pa_cons (pv 7) (pa_cons pe_int (pa_cons pe_int pa_nil)))) (fun _ _=>rfl)))
      (pss_cons (ps_setA 9 sc_x_law_sentence.nd (pe_ix ix_list (pv 5) (pe_op op_sub (pe_un un_neg pe_int) (pe_op op_mod (pe_callD G_x_law_draw hr T.f_x_law_draw (pa_cons (pv 7) (pa_cons pe_int (pa_cons pe_int pa_nil)))) (pe_callB call_len_seq rfl T.n_len bt_len (pa_cons (pv 5) pa_nil)))) (fun _ _=>rfl)))
      (pss_cons (ps_setA 10 sc_x_law_sentence.nd (pe_ix ix_list (pv 5) (pe_op op_mod (pe_callD G_x_law_draw hr T.f_x_law_draw (pa_cons (pv 7) (pa_cons pe_int (pa_cons pe_int pa_nil)))) (pe_callB call_len_seq rfl T.n_len bt_len (pa_cons (pv 5) pa_nil))) (fun _ _=>rfl)))
      (pss_cons (ps_setA 11 sc_x_law_sentence.nd (pe_ix ix_list (pv 3) (pe_op op_mod (pe_callD G_x_law_draw hr T.f_x_law_draw (pa_cons (pv 7) (pa_cons pe_int (pa_cons pe_int pa_nil)))) (pe_callB call_len_seq rfl T.n_len bt_len (pa_cons (pv 3) pa_nil))) (fun _ _=>rfl)))
      (pss_one (ps_if (PW.pt (pw_or (pt_cmpR op_eq (pv 8) pe_str (nomark _)) (pw_or1 (pt_cmpR op_eq (pv 8) pe_str (nomark _))))) (pss_one (ps_expr (pe_bm PySem.F.plainAttrs_list PySem.F.slot_list_append PySem.F.type_list_append mt_append (pv 5) (pa_cons (pe_tup (pa_cons (pv 8) pa_nil)) pa_nil)))) (pss_one (ps_if (pt_cmpR op_eq (pv 8) pe_str (nomark _)) (pss_one (ps_expr (pe_bm PySem.F.plainAttrs_list PySem.F.slot_list_append PySem.F.type_list_append mt_append (pv 5) (pa_cons (pe_tup (pa_cons pe_str (pa_cons (pv 11) pa_nil))) pa_nil)))) (pss_one (ps_if (pt_cmpR op_eq (pv 8) pe_str (nomark _)) (pss_one (ps_expr (pe_bm PySem.F.plainAttrs_list PySem.F.slot_list_append PySem.F.type_list_append mt_append (pv 5) (pa_cons (pe_tup (pa_cons pe_str (pa_cons (pv 9) pa_nil))) pa_nil)))) (pss_one (ps_if (PW.pt (pw_or (pt_cmpR op_eq (pv 8) pe_str (nomark _)) (pw_or1 (pt_cmpR op_eq (pv 8) pe_str (nomark _))))) (pss_one (ps_expr (pe_bm PySem.F.plainAttrs_list PySem.F.slot_list_append PySem.F.type_list_append mt_append (pv 5) (pa_cons (pe_tup (pa_cons (pv 8) (pa_cons (pv 11) (pa_cons (pv 9) pa_nil)))) pa_nil)))) (pss_one (ps_expr (pe_bm PySem.F.plainAttrs_list PySem.F.slot_list_append PySem.F.type_list_append mt_append (pv 5) (pa_cons (pe_tup (pa_cons (pv 8) (pa_cons (pv 10) (pa_cons (pv 9) pa_nil)))) pa_nil))))))))))))))))))
      (pss_one (ps_ret (pe_ix ix_list (pv 5) (pe_un un_neg pe_int) (fun _ _=>rfl)))))),?_⟩
  refine ⟨by show 14≤sizeLine; decide,fun kd hkd=>?_⟩
  have g1:=same_new hkd (.lst (kindsS.map V.str))
  have hS1:=g1.seq hS
  have hO1:=g1.seq hO
  refine ⟨_,rfl,_,rfl,_,rfl,sc,ns,(t:Int),rfl,hS1,by omega,fun c0=>?_⟩
  refine ⟨c0,3,40320,rfl,by decide,by decide,by decide,fun r0 _ _=>?_⟩
  obtain ⟨x0,hx0,hx0'⟩:=pick_letter o0 r0
  have pl:(0:Int) < ((os.map V.str).length:Nat):=by rw [List.length_map]; omega
  refine ⟨_,rfl,ol,_,rfl,.inl hO1,_,_,rfl,rfl,pl,ol,_,_,.str x0,rfl,rfl,hO1,hx0',by show 2≤sizeLine; decide,fun p0 hp0=>?_⟩
  refine ⟨by show 1≤sizeLine; decide,fun md hmd=>?_⟩
  have g2:=same_new hp0 (.tup [.str "mark", .str x0])
  have g3:=same_new hmd (.lst [.ref p0])
  have f0:H md = none:=(g1.trans g2).free hmd
  have nk:md≠kd:=Ne.symm (ne_of_none (g2 _ _ upd_same) hmd)
  have M0:Made H (upd (upd (upd H kd (.lst (kindsS.map V.str))) p0 (.tup [.str "mark", .str x0])) md (.lst [.ref p0])) os md kd [p0] 1:=by
    refine ⟨g1.trans (g2.trans g3),upd_same,g3 _ _ (g2 _ _ upd_same),by simp,fun p hp=>?_⟩
    have e:p = p0:=by simpa using hp
    subst e
    exact ⟨.mk x0,g3 _ _ upd_same,hx0,Nat.le_refl _⟩
  refine ⟨_,rfl,1,(m:Int),rfl,⟨by omega,by omega,by omega,by omega⟩,?_⟩
  refine for_range (fun i σ H'=>∃ (ps:List Addr) (f1 f2 f3 f4 f5 f6:Option V),Made H H' os md kd ps (i + 1)∧ps.length = i + 1∧σ = [some (.ref sc),some (.int t),some (.int m),some (.ref ol),some (.ref kd),some (.ref md),f1,f2,f3,f4,f5,f6])
    ⟨[p0],_,_,_,_,_,_,M0,rfl,rfl⟩ ?_ ?_
  · rintro i σ H' hi ⟨ps,f1,f2,f3,f4,f5,f6,M,lp,rfl⟩
    have hS2:=M.old.seq hS
    have hO2:=M.old.seq hO
    have e1:(t:Int) + (1 + (i:Nat)) = ((t + (1 + i):Nat):Int):=by omega
    refine ⟨_,rfl,_,rfl,_,rfl,_,_,rfl,rfl,sc,ns,_,rfl,hS2,by omega,fun c=>?_⟩
    refine ⟨_,rfl,_,rfl,c,0,14,rfl,by decide,by decide,by decide,fun d d0 d1=>?_⟩
    obtain ⟨jk,vk,qk1,qk2⟩:=atI_has (xs:=kindsS.map V.str) (i:=d) (by show -((14:Nat):Int)≤d; omega) (by show d < ((14:Nat):Int); omega)
    obtain ⟨kind,hkm,hkv⟩:∃ kind,kind∈kindsS∧vk = .str kind:=by
      rw [List.getElem?_map] at qk2
      cases hx:kindsS[jk]? with
      | none=>rw [hx] at qk2; cases qk2
      | some x=>rw [hx] at qk2; cases qk2; exact ⟨x,List.mem_of_getElem? hx,rfl⟩
    subst hkv
    refine ⟨kd,_,_,_,rfl,rfl,SqL.of M.kin,qk1,?_⟩
    have lm:((ps.map V.ref).length:Nat) = i + 1:=by rw [List.length_map]; exact lp
    have pm:(0:Int) < ((ps.map V.ref).length:Nat):=by rw [lm]; omega
    refine ⟨_,rfl,1,rfl,_,rfl,c,1,2,rfl,by decide,by decide,by decide,fun d2 _ _=>?_⟩
    refine ⟨_,rfl,md,_,rfl,.inl (SqL.of M.mad),_,_,rfl,rfl,pm,_,_,rfl,rfl,?_⟩
    have a0:=Int.emod_nonneg d2 (show ((ps.map V.ref).length:Int)≠0 by omega)
    have a1:=Int.emod_lt_of_pos d2 pm
    obtain ⟨q1,hq1,hq1'⟩:=pick_made (ps:=ps) (i:=-1 - d2 % ((ps.map V.ref).length:Nat)) (by rw [lm] at a0 a1 ⊢; omega) (by rw [lm] at a0 a1 ⊢; omega)
    refine ⟨md,_,_,_,rfl,rfl,SqL.of M.mad,hq1',?_⟩
    refine ⟨_,rfl,_,rfl,c,2,60,rfl,by decide,by decide,by decide,fun d3 _ _=>?_⟩
    refine ⟨_,rfl,md,_,rfl,.inl (SqL.of M.mad),_,_,rfl,rfl,pm,?_⟩
    have b0:=Int.emod_nonneg d3 (show ((ps.map V.ref).length:Int)≠0 by omega)
    have b1:=Int.emod_lt_of_pos d3 pm
    obtain ⟨q2,hq2,hq2'⟩:=pick_made (ps:=ps) (i:=d3 % ((ps.map V.ref).length:Nat)) (by rw [lm] at b0 b1 ⊢; omega) (by rw [lm] at b0 b1 ⊢; omega)
    refine ⟨md,_,_,_,rfl,rfl,SqL.of M.mad,hq2',?_⟩
    refine ⟨_,rfl,_,rfl,c,3,40320,rfl,by decide,by decide,by decide,fun d4 _ _=>?_⟩
    obtain ⟨x,hx,hx'⟩:=pick_letter o0 d4
    refine ⟨_,rfl,ol,_,rfl,.inl hO2,_,_,rfl,rfl,pl,ol,_,_,.str x,rfl,rfl,hO2,hx',?_⟩
    obtain ⟨s1,s1i,s1o,s1d⟩:=M.all q1 hq1
    obtain ⟨s2,s2i,s2o,s2d⟩:=M.all q2 hq2
    have big:ps.length < sizeLine:=Nat.lt_of_le_of_lt (show ps.length≤100 by omega) (by decide)
    have bigV:(ps.map V.ref).length < sizeLine:=by rw [List.length_map]; exact big
    have mdu:∀ (p:Addr) (o:HO),H' p = none→(upd H' p o) md = some (.lst (ps.map V.ref)):=fun p o hp=>by rw [upd_ne (ne_of_none M.mad hp)]; exact M.mad
    have fin:∀ (p:Addr) (xs:List V) (s':Sn),H' p = none→IsS (upd H' p (.tup xs)) s' p→s'.inO os→s'.depth≤i + 1 + 1 →
        ∃ (ps':List Addr) (f1 f2 f3 f4 f5 f6:Option V),Made H (upd (upd H' p (.tup xs)) md (.lst (ps.map V.ref ++ [.ref p]))) os md kd ps' (i + 1 + 1)∧ps'.length = i + 1 + 1 ∧
          [some (.ref sc),some (.int t),some (.int m),some (.ref ol),some (.ref kd),some (.ref md),some (.int (1 + (i:Nat))),some (.int c),some (.str kind),some (.ref q1),some (.ref q2),some (.str x)] = [some (.ref sc),some (.int t),some (.int m),some (.ref ol),some (.ref kd),some (.ref md),f1,f2,f3,f4,f5,f6]:=fun p xs s' hp hs ho hd=>by
      have:=M.push f0 hp hs ho hd nk
      rw [List.map_append] at this
      exact ⟨ps ++ [p],_,_,_,_,_,_,this,by simp [lp],rfl⟩
    refine ⟨_,rfl,rfl,_,rfl,ite2 (fun c1=>?_) (fun c1=>?_)⟩
    · have ek:kind = "yes" := by have:=of_decide_eq_true c1; cases this; rfl
      subst ek
      refine iteT ⟨_,rfl,.inl ⟨rfl,_,SqL.of M.mad⟩,_,rfl,by show 1≤sizeLine; decide,fun p hp=>⟨md,_,_,rfl,rfl,mdu p _ hp,bigV,?_⟩⟩
      exact fin p _ (.c0 true) hp upd_same trivial (by show 1≤_; omega)
    have n1:kind ≠ "yes" := fun e=>c1 (decide_eq_true (by rw [e]))
    refine ⟨_,rfl,rfl,_,rfl,ite2 (fun c2=>?_) (fun c2=>?_)⟩
    · have ek:kind = "no" := by have:=of_decide_eq_true c2; cases this; rfl
      subst ek
      refine ⟨_,rfl,.inl ⟨rfl,_,SqL.of M.mad⟩,_,rfl,by show 1≤sizeLine; decide,fun p hp=>⟨md,_,_,rfl,rfl,mdu p _ hp,bigV,?_⟩⟩
      exact fin p _ (.c0 false) hp upd_same trivial (by show 1≤_; omega)
    have n2:kind ≠ "no" := fun e=>c2 (decide_eq_true (by rw [e]))
    refine ⟨_,rfl,rfl,_,rfl,ite2 (fun c3=>?_) (fun c3=>?_)⟩
    · have ek:kind = "mark" := by have:=of_decide_eq_true c3; cases this; rfl
      subst ek
      refine ⟨_,rfl,.inl ⟨rfl,_,SqL.of M.mad⟩,_,rfl,by show 2≤sizeLine; decide,fun p hp=>⟨md,_,_,rfl,rfl,mdu p _ hp,bigV,?_⟩⟩
      exact fin p _ (.mk x) hp upd_same hx (by show 1≤_; omega)
    have n3:kind ≠ "mark" := fun e=>c3 (decide_eq_true (by rw [e]))
    refine ⟨_,rfl,rfl,_,rfl,ite2 (fun c4=>?_) (fun c4=>?_)⟩
    · have ek:kind = "not" := by have:=of_decide_eq_true c4; cases this; rfl
      subst ek
      refine ⟨_,rfl,.inl ⟨rfl,_,SqL.of M.mad⟩,_,rfl,by show 2≤sizeLine; decide,fun p hp=>⟨md,_,_,rfl,rfl,mdu p _ hp,bigV,?_⟩⟩
      exact fin p _ (.nt s1) hp ⟨q1,upd_same,s1i.mono (Tups.new hp _)⟩ s1o (by show 1 + s1.depth≤_; omega)
    have n4:kind ≠ "not" := fun e=>c4 (decide_eq_true (by rw [e]))
    refine ⟨_,rfl,rfl,_,rfl,ite2 (fun c5=>?_) (fun c5=>?_)⟩
    · have ek:kind = "some" := by have:=of_decide_eq_true c5; cases this; rfl
      subst ek
      refine iteT ⟨_,rfl,.inl ⟨rfl,_,SqL.of M.mad⟩,_,rfl,_,rfl,_,rfl,by show 3≤sizeLine; decide,fun p hp=>⟨md,_,_,rfl,rfl,mdu p _ hp,bigV,?_⟩⟩
      exact fin p _ (.q1 true x s1) hp ⟨q1,upd_same,s1i.mono (Tups.new hp _)⟩ ⟨hx,s1o⟩ (by show 1 + s1.depth≤_; omega)
    have n5:kind ≠ "some" := fun e=>c5 (decide_eq_true (by rw [e]))
    refine ⟨_,rfl,rfl,_,rfl,ite2 (fun c6=>?_) (fun c6=>?_)⟩
    · have ek:kind = "each" := by have:=of_decide_eq_true c6; cases this; rfl
      subst ek
      refine ⟨_,rfl,.inl ⟨rfl,_,SqL.of M.mad⟩,_,rfl,_,rfl,_,rfl,by show 3≤sizeLine; decide,fun p hp=>⟨md,_,_,rfl,rfl,mdu p _ hp,bigV,?_⟩⟩
      exact fin p _ (.q1 false x s1) hp ⟨q1,upd_same,s1i.mono (Tups.new hp _)⟩ ⟨hx,s1o⟩ (by show 1 + s1.depth≤_; omega)
    have n6:kind ≠ "each" := fun e=>c6 (decide_eq_true (by rw [e]))
    obtain ⟨o,ho⟩:∃ o:Fin 4,kind = w2 o:=by
      have:kind∈([Str.ofString "mark", Str.ofString "mark", Str.ofString "not", Str.ofString "and", Str.ofString "or", Str.ofString "either", Str.ofString "if", Str.ofString "and", Str.ofString "or", Str.ofString "some", Str.ofString "each", Str.ofString "yes", Str.ofString "no", Str.ofString "mark"]:List Str):=hkm
      simp only [List.mem_cons,List.not_mem_nil,or_false] at this
      rcases this with h | h | h | h | h | h | h | h | h | h | h | h | h | h <;> first | exact absurd h n1 | exact absurd h n2 | exact absurd h n3 | exact absurd h n4 | exact absurd h n5 | exact absurd h n6 | exact ⟨0,h⟩ | exact ⟨1,h⟩ | exact ⟨2,h⟩ | exact ⟨3,h⟩
    subst ho
    refine ⟨_,rfl,.inl ⟨rfl,_,SqL.of M.mad⟩,_,rfl,_,rfl,_,rfl,by show 3≤sizeLine; decide,fun p hp=>⟨md,_,_,rfl,rfl,mdu p _ hp,bigV,?_⟩⟩
    exact fin p _ (.b2 o s2 s1) hp ⟨q2,q1,upd_same,s2i.mono (Tups.new hp _),s1i.mono (Tups.new hp _)⟩ ⟨s2o,s1o⟩ (by show 1 + max s2.depth s1.depth≤_; omega)
  · rintro σ H' ⟨ps,f1,f2,f3,f4,f5,f6,M,lp,rfl⟩
    obtain ⟨p,hp,hp'⟩:=pick_made (ps:=ps) (i:=-1) (by omega) (by omega)
    obtain ⟨s',z1,z2,z3⟩:=M.all p hp
    have e:((m:Int) - 1).toNat + 1 = m:=by omega
    rw [e] at z3
    exact ⟨_,rfl,1,rfl,md,_,-1,_,rfl,rfl,SqL.of M.mad,hp',q p H' s' M.old z1 z2 z3⟩
theorem ok_is_mark (T:Txt P w K mg a):FnOk P w K mg base CX0 (k + 1) a.a_is_mark a.d_is_mark p_is_mark spIsMark:=by
  refine T.f_is_mark.F.ok sc_is_mark (fun vs H Q E h=>?_) (fun cdv A outer s H vs Q E hr h=>?_)
  · obtain ⟨x,rfl,_⟩:=h
    rfl
  obtain ⟨x,rfl,q⟩:=h
  refine ⟨_,(pss_one (ps_ret (pe_cmpR op_in_seq (pv 0) (pe_glob (v:=.ref a.a_MARKS) rfl T.m_MARKS rfl) (by with_unfolding_all rfl)))),?_⟩
  refine ⟨_,rfl,a.a_MARKS,letts.map V.str,rfl,.inr (T.q_MARKS H),rfl,flat_strs _,?_⟩
  show Q (.bl (inV (.str x) (letts.map V.str))) H
  rw [inV_strs]
  exact q
theorem ok_is_order (T:Txt P w K mg a) (G_is_mark:FnOk P w K mg base CX0 k a.a_is_mark a.d_is_mark p_is_mark spIsMark):FnOk P w K mg base CX0 (k + 1) a.a_is_order a.d_is_order p_is_order (spIsOrder K):=by
  refine T.f_is_order.F.ok sc_is_order (fun vs H Q E h=>?_) (fun cdv A outer s H vs Q E hr h=>?_)
  · obtain ⟨l,os,rfl,_⟩:=h
    rfl
  obtain ⟨l,os,rfl,hq,h100,q⟩:=h
  refine ⟨_,(pss_one (ps_ret (pe_and (pe_cmpR op_gt (pe_callB call_len_seq rfl T.n_len bt_len (pa_cons (pv 0) pa_nil)) pe_int (nomark _)) (pe_and (pe_callB (call_all rfl) rfl T.n_all bt_all (pa_cons (pe_lc0 (osc:=defScope S_is_order) (js:=[]) rfl (by show LcOk _ _ "letter" []; exact lco (by decide +kernel)) rfl (pi_list (pv 0)) (by show ∀ j∈([]:List Nat),j < 1; decide) (fun cl C s₂ H₂ fp=>(pe_callD G_is_mark hr T.f_is_mark (pa_cons (pv 0) pa_nil)))) pa_nil)) (pe_one (pe_cmpR op_eq (pe_callB call_len_set' rfl T.n_len bt_len (pa_cons (pe_callTy (call_set rfl) rfl T.n_set bt_set (pa_cons (pv 0) pa_nil)) pa_nil)) (pe_callB call_len_seq rfl T.n_len bt_len (pa_cons (pv 0) pa_nil)) (nomark _))))))),?_⟩
  have hlen:(os.map V.str).length = os.length:=List.length_map _
  refine ⟨_,rfl,l,_,rfl,.inl hq,_,_,rfl,rfl,_,rfl,ite2 (fun c=>?_) (fun c=>?_)⟩
  · have c':0 < os.length:=by have:=of_decide_eq_true c; rw [hlen] at this; omega
    refine ⟨_,rfl,l,rfl,⟨_,hq⟩,lc_relL (fun x v=>v = (match x with | .str y=>.bl (decide (y∈letts)) | _=>.non)) hq (by rw [hlen]; exact Nat.le_of_lt (small1000 (by omega))) ?_ (mono1 mono_isMark) ?_⟩
    · intro i x H' hx g
      rw [List.getElem?_map] at hx
      cases ho:os[i]? with
      | none=>rw [ho] at hx; cases hx
      | some y =>
        rw [ho] at hx
        cases hx
        exact ⟨_,rfl,y,rfl,rfl,g⟩
    · intro ys H' p hr' g hp
      have e:=pd_map (f:=fun x=>match x with | .str y=>.bl (decide (y∈letts)) | _=>.non) hr'
      rw [List.map_map] at e
      have e2:ys = (os.map fun y=>decide (y∈letts)).map V.bl:=by rw [e,List.map_map]; rfl
      subst e2
      have g1:=Same.new hp (.lst ((os.map fun y=>decide (y∈letts)).map V.bl))
      refine ⟨p,_,rfl,SqL.of upd_same,_,rfl,ite2 (fun c2=>?_) (fun c2=>?_)⟩
      · have hq2:=(g.trans g1).seq hq
        refine ⟨_,rfl,l,os,rfl,hq2,h100,fun z hz=>⟨z,_,rfl,upd_same,?_⟩⟩
        have g2:=Same.new hz (SetN P w z (dd os).length)
        refine ⟨_,rfl,l,_,rfl,.inl (g2.seq hq2),rfl,?_⟩
        have e3:decide (V.int ((dd os).length:Nat) = V.int ((os.map V.str).length:Nat)) = ordB os:=by
          unfold ordB
          have c2':os.all (fun x=>decide (x∈letts)) = true:=by rw [List.all_map] at c2; exact c2
          rw [decide_eq_true c',c2',hlen]
          by_cases nd:os.Nodup
          · rw [decide_eq_true nd,dd_nodup nd]; simp
          · have:=dd_dup nd
            rw [decide_eq_false nd,decide_eq_false (fun z=>by injection z with z; omega)]; rfl
        rw [e3]
        exact q _ ((g.trans g1).trans g2)
      · have e4:ordB os = false:=by
          unfold ordB
          have c2':os.all (fun x=>decide (x∈letts)) = false:=by
            rw [List.all_map] at c2
            exact Bool.eq_false_iff.mpr c2
          rw [c2',Bool.false_and,Bool.and_false]
        rw [← e4]
        exact q _ (g.trans g1)
  · have e4:ordB os = false:=by
      unfold ordB
      rw [decide_eq_false (fun z=>c (decide_eq_true (by rw [hlen]; omega))),Bool.false_and]
    rw [← e4]
    exact q _ (Same.refl _)
theorem ok_letters_of (T:Txt P w K mg a):FnOk P w K mg base CX0 (k + 1) a.a_letters_of a.d_letters_of p_letters_of spLettersOf:=by
  refine T.f_letters_of.F.ok sc_letters_of (fun vs H Q E h=>?_) (fun cdv A outer s H vs Q E hr h=>?_)
  · obtain ⟨p,x,m,n,rest,rfl,_⟩:=h
    rfl
  obtain ⟨p,x,m,n,rest,rfl,hp,hm,hl,q⟩:=h
  refine ⟨_,(pss_one (ps_ret (pe_slice sl_tup (pv 0) (po_some pe_int) (po_some (pe_op op_add pe_int (pe_ix ix_tup (pe_ix (ix_dicK T.h_SHAPES.d) (pe_glob (v:=.ref a.a_SHAPES) rfl T.m_SHAPES rfl) (pe_ix ix_tup (pv 0) pe_int (fun _ _=>rfl)) (fun _ _=>rfl)) pe_int (fun _ _=>rfl))))))),?_⟩
  obtain ⟨pt,hv,hpt⟩:=T.h_SHAPES.y x m n hm
  refine ⟨_,rfl,1,rfl,_,rfl,p,_,0,_,rfl,rfl,SqT.of hp,at0,x,.ref pt,.ref pt,rfl,rfl,hv,rfl,pt,_,0,_,rfl,rfl,hpt H,at0,1,(m:Int),rfl,rfl,_,rfl,p,_,rfl,SqT.of hp,not_whole1 (by decide),fun z hz=>?_⟩
  rw [cut_fore hl]
  exact q z hz
theorem ok_parts_of (T:Txt P w K mg a):FnOk P w K mg base CX0 (k + 1) a.a_parts_of a.d_parts_of p_parts_of spPartsOf:=by
  refine T.f_parts_of.F.ok sc_parts_of (fun vs H Q E h=>?_) (fun cdv A outer s H vs Q E hr h=>?_)
  · obtain ⟨p,x,m,n,rest,rfl,_⟩:=h
    rfl
  obtain ⟨p,x,m,n,rest,rfl,hp,hm,hl,q⟩:=h
  refine ⟨_,(pss_one (ps_ret (pe_slice sl_tup (pv 0) (po_some (pe_op op_add pe_int (pe_ix ix_tup (pe_ix (ix_dicK T.h_SHAPES.d) (pe_glob (v:=.ref a.a_SHAPES) rfl T.m_SHAPES rfl) (pe_ix ix_tup (pv 0) pe_int (fun _ _=>rfl)) (fun _ _=>rfl)) pe_int (fun _ _=>rfl)))) po_none))),?_⟩
  obtain ⟨pt,hv,hpt⟩:=T.h_SHAPES.y x m n hm
  refine ⟨_,rfl,_,rfl,p,_,0,_,rfl,rfl,SqT.of hp,at0,x,.ref pt,.ref pt,rfl,rfl,hv,rfl,pt,_,0,_,rfl,rfl,hpt H,at0,1,(m:Int),rfl,rfl,_,rfl,p,_,rfl,SqT.of hp,not_whole1 (by omega),fun z hz=>?_⟩
  rw [cut_rear hl]
  exact q z hz
theorem ok_parts_of_all (T:Txt P w K mg a) (G_parts_of:FnOk P w K mg base CX0 k a.a_parts_of a.d_parts_of p_parts_of spPartsOf):FnOk P w K mg base CX0 (k + 1) a.a_parts_of_all a.d_parts_of_all p_parts_of_all (spPartsOfAll K):=by
  refine T.f_parts_of_all.F.ok sc_parts_of_all (fun vs H Q E h=>?_) (fun cdv A outer s H vs Q E hr h=>?_)
  · obtain ⟨l,ss,ps,rfl,_⟩:=h
    rfl
  obtain ⟨l,ss,ps,rfl,hl,hp,hz,q⟩:=h
  refine ⟨_,(pss_cons (ps_setA 1 sc_parts_of_all.nd (pe_lst pa_nil))
      (pss_cons (ps_for PassesOwn.never rfl (pi_list (pv 0)) (pg_name (i:=2) sc_parts_of_all.nd rfl (Or.inl rfl)) (pss_one (ps_expr (pe_bm PySem.F.plainAttrs_list PySem.F.slot_list_extend PySem.F.type_list_extend mt_extendT (pv 1) (pa_cons (pe_callD G_parts_of hr T.f_parts_of (pa_cons (pv 2) pa_nil)) pa_nil)))))
      (pss_one (ps_ret (pv 1))))),?_⟩
  have pl:=pd_len hp
  refine ⟨by show 0≤sizeLine; decide,fun f hf=>?_⟩
  have g0:=Same.new hf (.lst [])
  refine ⟨_,rfl,l,rfl,⟨_,g0.seq hl⟩,?_⟩
  refine for_list (xs:=ps.map V.ref) (fun i σ H'=>∃ (qs:List Addr) (f1:Option V),Same H H'∧H' f = some (.lst (qs.map V.ref))∧Paired (IsS H') ((ss.take i).flatMap Sn.parts) qs∧qs.length≤2 * i∧i≤ss.length∧σ = [some (.ref l),some (.ref f),f1])
    ⟨[],_,g0,upd_same,.nil,by simp,Nat.zero_le _,rfl⟩ ?_ ?_ ?_
  · rintro i σ H' _ ⟨qs,f1,g,_⟩
    exact g.seq hl
  · rintro i x σ H' hx ⟨qs,f1,g,hf',hqs,lq,li,rfl⟩
    rw [List.getElem?_map] at hx
    cases ho:ps[i]? with
    | none=>rw [ho] at hx; cases hx
    | some p =>
      rw [ho] at hx
      cases hx
      obtain ⟨sn,hsn,isp⟩:=pd_ta hp ho
      have hlt:=(List.getElem?_eq_some_iff.mp hsn).1
      obtain ⟨zs,c1,c2,c3,c4,c5⟩:=sen_cut (isp.mono (Tups.of g))
      have lz:=pd_len c2
      have lp2:=Sn.parts_le sn
      refine ⟨_,rfl,.inl ⟨rfl,_,SqL.of hf'⟩,_,rfl,p,sn.word,sn.letters.length,sn.parts.length,_,rfl,c1,shape_in sn,c3,fun b hb=>?_⟩
      rw [c5]
      have nfb:f≠b:=ne_of_none hf' hb
      have hf2:(upd H' b (.tup (zs.map V.ref))) f = some (.lst (qs.map V.ref)):=by rw [upd_ne nfb]; exact hf'
      refine ⟨f,b,qs.map V.ref,zs.map V.ref,rfl,rfl,hf2,?_,?_,?_⟩
      · exact SqT.of upd_same
      · rw [List.length_map,List.length_map]
        exact Nat.le_of_lt (small1000 (by omega))
      · refine ⟨qs ++ zs,_,(g.trans (Same.new hb _)).over hf _,by rw [upd_same,List.map_append],?_,?_,hlt,rfl⟩
        · rw [take_next hsn,List.flatMap_append,List.flatMap_singleton]
          have t1:Tups H' (upd (upd H' b (.tup (zs.map V.ref))) f (.lst (qs.map V.ref ++ zs.map V.ref))):=(Tups.new hb _).trans (Tups.lst hf2 _)
          exact pd_app (pd_imp (fun _ _ z=>z.mono t1) hqs) (pd_imp (fun _ _ z=>z.mono t1) c2)
        · rw [List.length_append]; omega
  · rintro σ H' ⟨qs,f1,g,hf',hqs,lq,li,rfl⟩
    rw [List.length_map,← pl,List.take_length] at hqs
    exact ⟨_,rfl,q f H' qs g hf hf' hqs⟩
theorem ok_is_shaped (T:Txt P w K mg a) (G_is_mark:FnOk P w K mg base CX0 k a.a_is_mark a.d_is_mark p_is_mark spIsMark) (G_letters_of:FnOk P w K mg base CX0 k a.a_letters_of a.d_letters_of p_letters_of spLettersOf) (G_parts_of:FnOk P w K mg base CX0 k a.a_parts_of a.d_parts_of p_parts_of spPartsOf) :
    FnOk P w K mg base CX0 (k + 1) a.a_is_shaped a.d_is_shaped p_is_shaped spShaped:=by
  refine T.f_is_shaped.F.ok sc_is_shaped (fun vs H Q E h=>?_) (fun cdv A outer s H vs Q E hr h=>?_)
  · obtain ⟨p,s,rfl,_⟩:=h
    rfl
  obtain ⟨p,sn,rfl,isp,hle,q⟩:=h
  refine ⟨_,(pss_cons (ps_if (PW.pt (pw_or (pt_cmpR op_eq (pe_callB call_len_seq rfl T.n_len bt_len (pa_cons (pv 0) pa_nil)) pe_int (nomark _)) (pw_or (pt_not (pt_truth (pe_callB call_isinst rfl T.n_isinstance bt_isinstance (pa_cons (pe_ix ix_tup (pv 0) pe_int (fun _ _=>rfl)) (pa_cons (pe_bltn (v:=.ty "str") rfl T.n_str bt_str rfl) pa_nil))) (fun _=>rfl))) (pw_or1 (pt_cmpR (op_notIn_dicK T.h_SHAPES.d) (pe_ix ix_tup (pv 0) pe_int (fun _ _=>rfl)) (pe_glob (v:=.ref a.a_SHAPES) rfl T.m_SHAPES rfl) (by with_unfolding_all rfl)))))) (pss_one (ps_ret pe_bl)) pss_nil)
      (pss_cons (ps_setA 1 sc_is_shaped.nd (pe_ix (ix_dicK T.h_SHAPES.d) (pe_glob (v:=.ref a.a_SHAPES) rfl T.m_SHAPES rfl) (pe_ix ix_tup (pv 0) pe_int (fun _ _=>rfl)) (fun _ _=>rfl)))
      (pss_cons (ps_if (pt_cmpR op_ne (pe_callB call_len_seq rfl T.n_len bt_len (pa_cons (pv 0) pa_nil)) (pe_op op_add (pe_op op_add pe_int (pe_ix ix_tup (pv 1) pe_int (fun _ _=>rfl))) (pe_ix ix_tup (pv 1) pe_int (fun _ _=>rfl))) (nomark _)) (pss_one (ps_ret pe_bl)) pss_nil)
      (pss_cons (ps_if (pt_not (pt_truth (pe_callB (call_all rfl) rfl T.n_all bt_all (pa_cons (pe_lc0 (osc:=defScope S_is_shaped) (js:=[]) rfl (by show LcOk _ _ "letter" []; exact lco (by decide +kernel)) rfl (pi_tup (pe_callD G_letters_of hr T.f_letters_of (pa_cons (pv 0) pa_nil))) (by show ∀ j∈([]:List Nat),j < 2; decide) (fun cl C s₂ H₂ fp=>(pe_callD G_is_mark hr T.f_is_mark (pa_cons (pv 0) pa_nil)))) pa_nil)) (fun _=>rfl))) (pss_one (ps_ret pe_bl)) pss_nil)
      (pss_one (ps_ret (pe_callB (call_all rfl) rfl T.n_all bt_all (pa_cons (pe_lc0 (osc:=defScope S_is_shaped) (js:=[]) rfl (by show LcOk _ _ "part" []; exact lco (by decide +kernel)) rfl (pi_tup (pe_callD G_parts_of hr T.f_parts_of (pa_cons (pv 0) pa_nil))) (by show ∀ j∈([]:List Nat),j < 2; decide) (fun cl C s₂ H₂ fp=>(pe_callB (call_isinstK (K:=K) rfl) rfl T.n_isinstance bt_isinstance (pa_cons (pv 0) (pa_cons (pe_bltn (v:=.ty "tuple") rfl T.n_tuple bt_tuple rfl) pa_nil))))) pa_nil)))))))),?_⟩
  obtain ⟨zs,c1,c2,c3,c4,c5⟩:=sen_cut isp
  have lz:=pd_len c2
  obtain ⟨pt,hv,hpt⟩:=T.h_SHAPES.y _ _ _ (shape_in sn)
  have lp2:=Sn.parts_le sn
  have ll1:=Sn.letters_le sn
  refine ⟨_,rfl,p,_,rfl,.inr (SqT.of c1),rfl,_,rfl,ite2 (fun c=>?_) (fun _=>?_)⟩
  · exfalso
    have:=of_decide_eq_true c
    injection this with this
    rw [List.length_cons] at this
    omega
  refine ⟨_,rfl,p,_,0,_,rfl,rfl,SqT.of c1,at0,_,_,_,true,rfl,.str sn.word,rfl,_,rfl,iteF ?_⟩
  refine ⟨_,rfl,p,_,0,_,rfl,rfl,SqT.of c1,at0,sn.word,rfl,rfl,_,rfl,?_⟩
  rw [hv]
  refine iteF ?_
  refine ⟨_,rfl,p,_,0,_,rfl,rfl,SqT.of c1,at0,sn.word,.ref pt,.ref pt,rfl,rfl,hv,rfl,?_⟩
  refine ⟨_,rfl,p,_,rfl,.inr (SqT.of c1),_,rfl,pt,_,0,_,rfl,rfl,hpt H,at0,1,_,rfl,rfl,_,rfl,pt,_,1,_,rfl,rfl,hpt H,at1,_,_,rfl,rfl,rfl,_,rfl,ite2 (fun c=>?_) (fun _=>?_)⟩
  · exfalso
    have z:V.int ((VC sn zs).length:Nat) = V.int (1 + ((sn.letters.length:Nat):Int) + ((sn.parts.length:Nat):Int)):=by
      congr 1
      show (((V.str sn.word :: (sn.letters.map V.str ++ zs.map V.ref)).length:Nat):Int) = _
      rw [List.length_cons,c3]
      omega
    have c':(!decide (V.int ((VC sn zs).length:Nat) = V.int (1 + ((sn.letters.length:Nat):Int) + ((sn.parts.length:Nat):Int)))) = true:=c
    rw [decide_eq_true z] at c'
    cases c'
  refine ⟨_,rfl,p,sn.word,sn.letters.length,sn.parts.length,_,rfl,c1,shape_in sn,c3,fun b hb=>?_⟩
  rw [c4]
  have g1:=Same.new hb (.tup (sn.letters.map V.str))
  refine ⟨b,rfl,⟨_,SqT.of upd_same⟩,lc_relT (xs:=sn.letters.map V.str) (fun _ v=>v = .bl true) (SqT.of upd_same) (by rw [List.length_map]; exact Nat.le_of_lt (small1000 (by omega))) ?_ (mono1 mono_isMark) ?_⟩
  · intro i x H' hx g
    rw [List.getElem?_map] at hx
    cases ho:sn.letters[i]? with
    | none=>rw [ho] at hx; cases hx
    | some y =>
      rw [ho] at hx
      cases hx
      refine ⟨_,rfl,y,rfl,?_,g⟩
      rw [decide_eq_true (hle y (List.mem_of_getElem? ho))]
  intro ys H' p2 hr' g hp2
  have e:=pd_map (f:=fun _=>.bl true) hr'
  have e2:ys = (sn.letters.map fun _=>true).map V.bl:=by rw [e,List.map_map,List.map_map]; rfl
  subst e2
  have g2:=Same.new hp2 (.lst ((sn.letters.map fun _=>true).map V.bl))
  have ea:(sn.letters.map fun _=>true).all id = true:=by rw [List.all_map,List.all_eq_true]; exact fun _ _=>rfl
  refine ⟨p2,_,rfl,SqL.of upd_same,_,rfl,?_⟩
  rw [ea]
  refine iteF ?_
  have gg:=(g1.trans g).trans g2
  have c1':=gg _ _ c1
  refine ⟨_,rfl,p,sn.word,sn.letters.length,sn.parts.length,_,rfl,c1',shape_in sn,c3,fun b3 hb3=>?_⟩
  rw [c5]
  have g3:=Same.new hb3 (.tup (zs.map V.ref))
  refine ⟨b3,rfl,⟨_,SqT.of upd_same⟩,lc_relT (xs:=zs.map V.ref) (fun _ v=>v = .bl true) (SqT.of upd_same) (by rw [List.length_map]; exact Nat.le_of_lt (small1000 (by omega))) ?_ ?_ ?_⟩
  · intro i x H4 hx g4
    rw [List.getElem?_map] at hx
    cases ho:zs[i]? with
    | none=>rw [ho] at hx; cases hx
    | some y =>
      rw [ho] at hx
      cases hx
      obtain ⟨sy,_,iy⟩:=pd_ta c2 ho
      obtain ⟨ws,d1,_⟩:=sen_cut iy
      have d1':=((gg.trans g3).trans g4) _ _ d1
      exact ⟨_,rfl,_,_,_,true,rfl,.tup d1',rfl,rfl,g4⟩
  · rintro σ' H' Q1 Q2 hQ ⟨v,e,x,T',t,b',h1,h2,h3,h4⟩
    exact ⟨v,e,x,T',t,b',h1,h2,h3,hQ _ _ h4⟩
  · intro ys H4 p4 hr4 g4 hp4
    have e:=pd_map (f:=fun _=>.bl true) hr4
    have e2:ys = (zs.map fun _=>true).map V.bl:=by rw [e,List.map_map,List.map_map]; rfl
    subst e2
    have ea:(zs.map fun _=>true).all id = true:=by rw [List.all_map,List.all_eq_true]; exact fun _ _=>rfl
    refine ⟨p4,_,rfl,SqL.of upd_same,?_⟩
    rw [ea]
    exact q _ (((gg.trans g3).trans g4).trans (Same.new hp4 _))
theorem ok_is_sentence (T:Txt P w K mg a) (G_is_shaped:FnOk P w K mg base CX0 k a.a_is_shaped a.d_is_shaped p_is_shaped spShaped) (G_parts_of_all:FnOk P w K mg base CX0 k a.a_parts_of_all a.d_parts_of_all p_parts_of_all (spPartsOfAll K)) :
    FnOk P w K mg base CX0 (k + 1) a.a_is_sentence a.d_is_sentence p_is_sentence spIsSen:=by
  refine T.f_is_sentence.F.ok sc_is_sentence (fun vs H Q E h=>?_) (fun cdv A outer s H vs Q E hr h=>?_)
  · obtain ⟨p,s,rfl,_⟩:=h
    rfl
  obtain ⟨p,sn,rfl,isp,hin,hc,hd,q⟩:=h
  refine ⟨_,(pss_cons (ps_setA 1 sc_is_sentence.nd (pe_lst (pa_cons (pv 0) pa_nil)))
      (pss_cons (ps_setA 2 sc_is_sentence.nd pe_int)
      (pss_cons (ps_setA 3 sc_is_sentence.nd pe_int)
      (pss_cons (ps_while PassesOwn.never (pt_cmpR op_gt (pe_callB call_len_seq rfl T.n_len bt_len (pa_cons (pv 1) pa_nil)) pe_int (nomark _)) (pss_cons (ps_aug (i:=2) sc_is_sentence.nd rfl (Or.inl rfl) pe_int iop_add)
      (pss_cons (ps_aug (i:=3) sc_is_sentence.nd rfl (Or.inl rfl) (pe_callB call_len_seq rfl T.n_len bt_len (pa_cons (pv 1) pa_nil)) iop_add)
      (pss_cons (ps_if (PW.pt (pw_or (pt_cmpR op_gt (pv 2) (pe_glob (v:=.int 24) rfl T.m_MOST_DEEP ⟨_,rfl⟩) (nomark _)) (pw_or1 (pt_cmpR op_gt (pv 3) (pe_glob (v:=.int 200) rfl T.m_MOST_TUPLES ⟨_,rfl⟩) (nomark _))))) (pss_one (ps_ret pe_bl)) pss_nil)
      (pss_cons (ps_if (pt_not (pt_truth (pe_callB (call_all rfl) rfl T.n_all bt_all (pa_cons (pe_lc0 (osc:=defScope S_is_sentence) (js:=[]) rfl (by show LcOk _ _ "part" []; exact lco (by decide +kernel)) rfl (pi_list (pv 1)) (by show ∀ j∈([]:List Nat),j < 4; decide) (fun cl C s₂ H₂ fp=>(pe_callD G_is_shaped hr T.f_is_shaped (pa_cons (pv 0) pa_nil)))) pa_nil)) (fun _=>rfl))) (pss_one (ps_ret pe_bl)) pss_nil)
      (pss_one (ps_setA 1 sc_is_sentence.nd (pe_callD G_parts_of_all hr T.f_parts_of_all (pa_cons (pv 1) pa_nil)))))))))
      (pss_one (ps_ret pe_bl)))))),?_⟩
  refine ⟨_,rfl,by show 1≤sizeLine; decide,fun l0 hl0=>?_⟩
  have g0:=Same.new hl0 (.lst [.ref p])
  refine ⟨fun m σ H'=>∃ (ss:List Sn) (ps:List Addr) (l:Addr) (d t:Nat),m = cnt ss∧Same H H'∧H' l = some (.lst (ps.map V.ref))∧Paired (IsS H') ss ps∧(∀ u∈ss,u.inO letts∧d + u.depth≤24)∧t + cnt ss≤200∧σ = [some (.ref p),some (.ref l),some (.int d),some (.int t)],
    ⟨_,[sn],[p],l0,0,0,rfl,g0,upd_same,.cons (isp.mono (Tups.of g0)) .nil,?_,?_,rfl⟩,?_⟩
  · intro u hu
    have e:u = sn:=by simpa using hu
    subst e
    exact ⟨hin,by omega⟩
  · show 0 + (sn.count + 0)≤200
    omega
  rintro m σ H' ⟨ss,ps,l,d,t,rfl,g,hl,hp,hi,ht,rfl⟩
  have lp:=pd_len hp
  have le:(ps.map V.ref).length = ss.length:=by rw [List.length_map]; exact lp.symm
  have cl:=cnt_len ss
  refine ⟨_,rfl,l,_,rfl,.inl (SqL.of hl),_,_,rfl,rfl,_,rfl,ite2 (fun c=>?_) (fun c=>?_)⟩
  · have c':0 < ss.length:=by have:=of_decide_eq_true c; rw [le] at this; omega
    have hd1:d + 1≤24:=by
      have hm:ss[0]∈ss:=List.getElem_mem c'
      have:=(hi _ hm).2
      have:=Sn.depth_pos ss[0]
      omega
    refine ⟨_,fun σ' H2 h=>h,?_⟩
    refine ⟨_,rfl,(d:Int),1,rfl,rfl,?_⟩
    refine ⟨_,rfl,_,rfl,l,_,rfl,.inl (SqL.of hl),(t:Int),_,rfl,rfl,?_⟩
    refine ⟨_,rfl,_,_,rfl,rfl,_,rfl,ite2 (fun c2=>?_) (fun _=>?_)⟩
    · exfalso
      have:=of_decide_eq_true c2
      omega
    refine ⟨_,rfl,_,_,rfl,rfl,_,rfl,ite2 (fun c2=>?_) (fun _=>?_)⟩
    · exfalso
      have:=of_decide_eq_true c2
      rw [le] at this
      omega
    refine ⟨_,rfl,l,rfl,⟨_,SqL.of hl⟩,lc_relL (fun _ v=>v = .bl true) (SqL.of hl) (by rw [le]; exact Nat.le_of_lt (small1000 (by omega))) ?_ (mono1 mono_shaped) ?_⟩
    · intro i x H2 hx g2
      rw [List.getElem?_map] at hx
      cases ho:ps[i]? with
      | none=>rw [ho] at hx; cases hx
      | some y =>
        rw [ho] at hx
        cases hx
        obtain ⟨sy,hsy,iy⟩:=pd_ta hp ho
        exact ⟨_,rfl,y,sy,rfl,iy.mono (Tups.of g2),Sn.inO_letters sy (hi sy (List.mem_of_getElem? hsy)).1,fun H3 g3=>⟨rfl,g2.trans g3⟩⟩
    intro ys H2 p2 hr' g2 hp2
    have e:=pd_map (f:=fun _=>.bl true) hr'
    have e2:ys = (ps.map fun _=>true).map V.bl:=by rw [e,List.map_map,List.map_map]; rfl
    subst e2
    have g3:=Same.new hp2 (.lst ((ps.map fun _=>true).map V.bl))
    have ea:(ps.map fun _=>true).all id = true:=by rw [List.all_map,List.all_eq_true]; exact fun _ _=>rfl
    refine ⟨p2,_,rfl,SqL.of upd_same,_,rfl,?_⟩
    rw [ea]
    refine iteF ?_
    have gg:=g2.trans g3
    refine ⟨_,rfl,l,ss,ps,rfl,gg.seq (SqL.of hl),pd_imp (fun _ _ z=>z.mono (Tups.of gg)) hp,by omega,fun l' H4 ps' g4 hn hl' hp'=>?_⟩
    have cp:=cnt_parts ss
    refine ⟨cnt (ss.flatMap Sn.parts),by omega,ss.flatMap Sn.parts,ps',l',d + 1,t + (ps.map V.ref).length,rfl,(g.trans gg).trans g4,hl',hp',?_,by omega,rfl⟩
    intro u hu
    obtain ⟨s',hs',hu'⟩:=mem_level.mp hu
    obtain ⟨i1,i2⟩:=hi s' hs'
    have:=Sn.depth_parts s' u hu'
    exact ⟨Sn.inO_parts s' i1 u hu',by omega⟩
  · exact q _ g
theorem ok_must_be_order (T:Txt P w K mg a) (G_is_order:FnOk P w K mg base CX0 k a.a_is_order a.d_is_order p_is_order (spIsOrder K)):FnOk P w K mg base CX0 (k + 1) a.a_must_be_order a.d_must_be_order p_must_be_order (spMustOrder K):=by
  refine T.f_must_be_order.F.ok sc_must_be_order (fun vs H Q E h=>?_) (fun cdv A outer s H vs Q E hr h=>?_)
  · obtain ⟨l,os,rfl,_⟩:=h
    rfl
  obtain ⟨l,os,rfl,hq,ho,q⟩:=h
  refine ⟨_,(pss_one (ps_if (pt_not (pt_truth (pe_callD G_is_order hr T.f_is_order (pa_cons (pv 0) pa_nil)) (fun _=>rfl))) (pss_one ps_never) pss_nil)),?_⟩
  refine ⟨_,rfl,l,os,rfl,hq,Nat.le_trans ho.le (by decide),fun H' g=>⟨_,rfl,?_⟩⟩
  rw [ordB_of ho]
  exact iteF (q H' g)
theorem ok_must_be_sentence (T:Txt P w K mg a) (G_is_sentence:FnOk P w K mg base CX0 k a.a_is_sentence a.d_is_sentence p_is_sentence spIsSen):FnOk P w K mg base CX0 (k + 1) a.a_must_be_sentence a.d_must_be_sentence p_must_be_sentence spMustSen:=by
  refine T.f_must_be_sentence.F.ok sc_must_be_sentence (fun vs H Q E h=>?_) (fun cdv A outer s H vs Q E hr h=>?_)
  · obtain ⟨p,s,rfl,_⟩:=h
    rfl
  obtain ⟨p,sn,rfl,h1,h2,h3,h4,q⟩:=h
  refine ⟨_,(pss_one (ps_if (pt_not (pt_truth (pe_callD G_is_sentence hr T.f_is_sentence (pa_cons (pv 0) pa_nil)) (fun _=>rfl))) (pss_one ps_never) pss_nil)),?_⟩
  exact ⟨_,rfl,p,sn,rfl,h1,h2,h3,h4,fun H' g=>⟨_,rfl,iteF (q H' g)⟩⟩
theorem ok_tuples_in (T:Txt P w K mg a) (G_parts_of_all:FnOk P w K mg base CX0 k a.a_parts_of_all a.d_parts_of_all p_parts_of_all (spPartsOfAll K)):FnOk P w K mg base CX0 (k + 1) a.a_tuples_in a.d_tuples_in p_tuples_in spTuplesIn:=by
  refine T.f_tuples_in.F.ok sc_tuples_in (fun vs H Q E h=>?_) (fun cdv A outer s H vs Q E hr h=>?_)
  · obtain ⟨p,s,rfl,_⟩:=h
    rfl
  obtain ⟨p,sn,rfl,isp,hc,q⟩:=h
  refine ⟨_,(pss_cons (ps_setA 1 sc_tuples_in.nd (pe_lst pa_nil))
      (pss_cons (ps_setA 2 sc_tuples_in.nd (pe_lst (pa_cons (pv 0) pa_nil)))
      (pss_cons (ps_while PassesOwn.never (pt_cmpR op_gt (pe_callB call_len_seq rfl T.n_len bt_len (pa_cons (pv 2) pa_nil)) pe_int (nomark _)) (pss_cons (ps_expr (pe_bm PySem.F.plainAttrs_list PySem.F.slot_list_extend PySem.F.type_list_extend mt_extend (pv 1) (pa_cons (pv 2) pa_nil)))
      (pss_one (ps_setA 2 sc_tuples_in.nd (pe_callD G_parts_of_all hr T.f_parts_of_all (pa_cons (pv 2) pa_nil))))))
      (pss_one (ps_ret (pv 1)))))),?_⟩
  refine ⟨by show 0≤sizeLine; decide,fun f hf=>?_⟩
  refine ⟨_,rfl,by show 1≤sizeLine; decide,fun l0 hl0=>?_⟩
  have g0:=(Same.new hf (.lst [])).trans (Same.new hl0 (.lst [.ref p]))
  have nfl:f≠l0:=ne_of_none upd_same hl0
  refine ⟨fun m σ H'=>∃ (ts ss:List Sn) (qs ps:List Addr) (l:Addr),m = cnt ss∧Same H H'∧H' f = some (.lst (qs.map V.ref))∧H' l = some (.lst (ps.map V.ref))∧f≠l∧Paired (IsS H') ts qs∧Paired (IsS H') ss ps∧ts.length + cnt ss = sn.count ∧
      (∀ x,((∃ t∈ts,x∈t.letters)∨∃ u∈ss,x∈u.all)↔x∈sn.all)∧σ = [some (.ref p),some (.ref f),some (.ref l)],
    ⟨_,[],[sn],[],[p],l0,rfl,g0,by rw [upd_ne nfl]; exact upd_same,upd_same,nfl,.nil,.cons (isp.mono (Tups.of g0)) .nil,?_,?_,rfl⟩,?_⟩
  · show 0 + (sn.count + 0) = sn.count
    omega
  · intro x
    simp
  rintro m σ H' ⟨ts,ss,qs,ps,l,rfl,g,hf',hl,nfl,hts,hss,hcn,hle,rfl⟩
  have lt:=pd_len hts
  have lp:=pd_len hss
  have cl:=cnt_len ss
  have le:(ps.map V.ref).length = ss.length:=by rw [List.length_map]; exact lp.symm
  refine ⟨_,rfl,l,_,rfl,.inl (SqL.of hl),_,_,rfl,rfl,_,rfl,ite2 (fun c=>?_) (fun c=>?_)⟩
  · have c':0 < ss.length:=by have:=of_decide_eq_true c; rw [le] at this; omega
    refine ⟨_,fun σ' H2 h=>h,?_⟩
    refine ⟨_,rfl,.inl ⟨rfl,_,SqL.of hf'⟩,_,rfl,f,l,_,_,rfl,rfl,hf',hl,by rw [List.length_map,List.length_map]; exact Nat.le_of_lt (small1000 (by omega)),?_⟩
    have t1:Tups H' (upd H' f (.lst (qs.map V.ref ++ ps.map V.ref))):=Tups.lst hf' _
    have g1:Same H (upd H' f (.lst (qs.map V.ref ++ ps.map V.ref))):=g.over hf _
    have hl1:(upd H' f (.lst (qs.map V.ref ++ ps.map V.ref))) l = some (.lst (ps.map V.ref)):=by rw [upd_ne (Ne.symm nfl)]; exact hl
    refine ⟨_,rfl,l,ss,ps,rfl,SqL.of hl1,pd_imp (fun _ _ z=>z.mono t1) hss,by omega,fun l' H3 ps' g3 hn hl' hp'=>?_⟩
    have cp:=cnt_parts ss
    have t3:=t1.trans (Tups.of g3)
    refine ⟨cnt (ss.flatMap Sn.parts),by omega,ts ++ ss,ss.flatMap Sn.parts,qs ++ ps,ps',l',rfl,g1.trans g3,by rw [List.map_append]; exact g3 _ _ upd_same,hl',ne_of_none upd_same hn,
      pd_app (pd_imp (fun _ _ z=>z.mono t3) hts) (pd_imp (fun _ _ z=>z.mono t3) hss),hp',by rw [List.length_append]; omega,fun x=>?_,rfl⟩
    rw [← hle x]
    constructor
    · rintro (⟨t,ht,hx⟩ | ⟨u,hu,hx⟩)
      · rcases List.mem_append.mp ht with z | z
        · exact .inl ⟨t,z,hx⟩
        · exact .inr ⟨t,z,(Sn.all_iff t x).mpr (.inl hx)⟩
      · obtain ⟨s',hs',hu'⟩:=mem_level.mp hu
        exact .inr ⟨s',hs',(Sn.all_iff s' x).mpr (.inr ⟨u,hu',hx⟩)⟩
    · rintro (⟨t,ht,hx⟩ | ⟨u,hu,hx⟩)
      · exact .inl ⟨t,List.mem_append_left _ ht,hx⟩
      · rcases (Sn.all_iff u x).mp hx with z | ⟨v,hv,z⟩
        · exact .inl ⟨u,List.mem_append_right _ hu,z⟩
        · exact .inr ⟨v,mem_level.mpr ⟨u,hu,hv⟩,z⟩
  · have c':ss = []:=by
      have:¬ 0 < ss.length:=fun z=>c (decide_eq_true (by rw [le]; omega))
      exact List.length_eq_zero_iff.mp (by omega)
    subst c'
    refine ⟨_,rfl,q f H' ts qs g hf hf' hts ?_ fun x=>?_⟩
    · have:cnt [] = 0:=rfl
      omega
    · rw [← hle x]
      constructor
      · exact fun z=>.inl z
      · rintro (z | ⟨u,hu,_⟩)
        · exact z
        · cases hu
theorem ok_letters_in (T:Txt P w K mg a) (G_tuples_in:FnOk P w K mg base CX0 k a.a_tuples_in a.d_tuples_in p_tuples_in spTuplesIn) (G_letters_of:FnOk P w K mg base CX0 k a.a_letters_of a.d_letters_of p_letters_of spLettersOf):FnOk P w K mg base CX0 (k + 1) a.a_letters_in a.d_letters_in p_letters_in spLettersIn:=by
  refine T.f_letters_in.F.ok sc_letters_in (fun vs H Q E h=>?_) (fun cdv A outer s H vs Q E hr h=>?_)
  · obtain ⟨p,s,rfl,_⟩:=h
    rfl
  obtain ⟨p,sn,rfl,isp,hc,q⟩:=h
  refine ⟨_,(pss_cons (ps_setA 1 sc_letters_in.nd (pe_lst pa_nil))
      (pss_cons (ps_for PassesOwn.never rfl (pi_list (pe_callD G_tuples_in hr T.f_tuples_in (pa_cons (pv 0) pa_nil))) (pg_name (i:=2) sc_letters_in.nd rfl (Or.inl rfl)) (pss_one (ps_expr (pe_bm PySem.F.plainAttrs_list PySem.F.slot_list_extend PySem.F.type_list_extend mt_extendT (pv 1) (pa_cons (pe_callD G_letters_of hr T.f_letters_of (pa_cons (pv 2) pa_nil)) pa_nil)))))
      (pss_one (ps_ret (pv 1))))),?_⟩
  refine ⟨by show 0≤sizeLine; decide,fun f hf=>?_⟩
  have g0:=Same.new hf (.lst [])
  refine ⟨_,rfl,p,sn,rfl,isp.mono (Tups.of g0),hc,fun l H1 ts ps g1 hn hl hts htl hle=>?_⟩
  have nfl:f≠l:=ne_of_none upd_same hn
  have lt:=pd_len hts
  refine ⟨l,rfl,⟨_,SqL.of hl⟩,?_⟩
  refine for_list (xs:=ps.map V.ref) (fun i σ H'=>∃ (f1:Option V),Same H H'∧H' f = some (.lst (((ts.take i).flatMap Sn.letters).map V.str))∧H' l = some (.lst (ps.map V.ref))∧Paired (IsS H') ts ps∧((ts.take i).flatMap Sn.letters).length≤i∧i≤ts.length∧σ = [some (.ref p),some (.ref f),f1])
    ⟨_,g0.trans g1,g1 _ _ upd_same,hl,hts,by simp,Nat.zero_le _,rfl⟩ ?_ ?_ ?_
  · rintro i σ H' _ ⟨f1,g,hf',hl',_⟩
    exact SqL.of hl'
  · rintro i x σ H' hx ⟨f1,g,hf',hl',hts',lq,li,rfl⟩
    rw [List.getElem?_map] at hx
    cases ho:ps[i]? with
    | none=>rw [ho] at hx; cases hx
    | some pp =>
      rw [ho] at hx
      cases hx
      obtain ⟨sy,hsy,iy⟩:=pd_ta hts' ho
      have hlt:=(List.getElem?_eq_some_iff.mp hsy).1
      obtain ⟨zs,c1,c2,c3,c4,c5⟩:=sen_cut iy
      have l1:=Sn.letters_le sy
      refine ⟨_,rfl,.inl ⟨rfl,_,SqL.of hf'⟩,_,rfl,pp,sy.word,sy.letters.length,sy.parts.length,_,rfl,c1,shape_in sy,c3,fun b hb=>?_⟩
      rw [c4]
      have hf2:(upd H' b (.tup (sy.letters.map V.str))) f = some (.lst (((ts.take i).flatMap Sn.letters).map V.str)):=by rw [upd_ne (ne_of_none hf' hb)]; exact hf'
      refine ⟨f,b,_,sy.letters.map V.str,rfl,rfl,hf2,SqT.of upd_same,?_,?_⟩
      · rw [List.length_map,List.length_map]
        exact Nat.le_of_lt (small1000 (by omega))
      · have t1:Tups H' (upd (upd H' b (.tup (sy.letters.map V.str))) f (.lst (((ts.take i).flatMap Sn.letters).map V.str ++ sy.letters.map V.str))):=(Tups.new hb _).trans (Tups.lst hf2 _)
        have e:(ts.take (i + 1)).flatMap Sn.letters = (ts.take i).flatMap Sn.letters ++ sy.letters:=by rw [take_next hsy,List.flatMap_append,List.flatMap_singleton]
        refine ⟨_,(g.trans (Same.new hb _)).over hf _,by rw [upd_same,e,List.map_append],?_,pd_imp (fun _ _ z=>z.mono t1) hts',by rw [e,List.length_append]; omega,hlt,rfl⟩
        rw [upd_ne (Ne.symm nfl),upd_ne (ne_of_none hl' hb)]
        exact hl'
  · rintro σ H' ⟨f1,g,hf',hl',hts',lq,li,rfl⟩
    rw [List.length_map,← lt,List.take_length] at hf' lq
    refine ⟨_,rfl,q f H' _ g hf hf' (fun x=>?_) (by omega)⟩
    rw [← hle x,List.mem_flatMap]
theorem ok_must_have_mark (T:Txt P w K mg a):FnOk P w K mg base CX0 (k + 1) a.a_must_have_mark a.d_must_have_mark p_must_have_mark (spMustMark K):=by
  refine T.f_must_have_mark.F.ok sc_must_have_mark (fun vs H Q E h=>?_) (fun cdv A outer s H vs Q E hr h=>?_)
  · obtain ⟨l,x,os,rfl,_⟩:=h
    rfl
  obtain ⟨l,x,os,rfl,hO,hx,q⟩:=h
  refine ⟨_,(pss_one (ps_if (pt_cmpR op_notIn_seq (pv 1) (pv 0) (by with_unfolding_all rfl)) (pss_one ps_never) pss_nil)),?_⟩
  refine ⟨_,rfl,_,rfl,l,_,rfl,.inl hO,rfl,flat_strs _,_,rfl,?_⟩
  have e:(if true = true then !inV (.str x) (os.map V.str) else inV (.str x) (os.map V.str)) = false:=by
    rw [if_pos rfl,inV_strs,decide_eq_true hx]; rfl
  rw [e]
  exact iteF q
theorem ok_must_have_marks (T:Txt P w K mg a) (G_letters_in:FnOk P w K mg base CX0 k a.a_letters_in a.d_letters_in p_letters_in spLettersIn) (G_must_have_mark:FnOk P w K mg base CX0 k a.a_must_have_mark a.d_must_have_mark p_must_have_mark (spMustMark K)):FnOk P w K mg base CX0 (k + 1) a.a_must_have_marks a.d_must_have_marks p_must_have_marks (spMustMarks K):=by
  refine T.f_must_have_marks.F.ok sc_must_have_marks (fun vs H Q E h=>?_) (fun cdv A outer s H vs Q E hr h=>?_)
  · obtain ⟨l,p,os,s,rfl,_⟩:=h
    rfl
  obtain ⟨l,p,os,sn,rfl,hO,isp,hc,hin,q⟩:=h
  refine ⟨_,(pss_one (ps_for PassesOwn.never rfl (pi_list (pe_callD G_letters_in hr T.f_letters_in (pa_cons (pv 1) pa_nil))) (pg_name (i:=2) sc_must_have_marks.nd rfl (Or.inl rfl)) (pss_one (ps_expr (pe_callD G_must_have_mark hr T.f_must_have_mark (pa_cons (pv 0) (pa_cons (pv 2) pa_nil))))))),?_⟩
  refine ⟨_,rfl,p,sn,rfl,isp,hc,fun f H1 xs g1 hn hl hmem hxl=>?_⟩
  refine ⟨f,rfl,⟨_,SqL.of hl⟩,?_⟩
  refine for_list (xs:=xs.map V.str) (fun i σ H'=>∃ f1:Option V,H' = H1∧σ = [some (.ref l),some (.ref p),f1]) ⟨_,rfl,rfl⟩ ?_ ?_ ?_
  · rintro i σ H' _ ⟨f1,rfl,_⟩
    exact SqL.of hl
  · rintro i x σ H' hx ⟨f1,rfl,rfl⟩
    rw [List.getElem?_map] at hx
    cases ho:xs[i]? with
    | none=>rw [ho] at hx; cases hx
    | some y =>
      rw [ho] at hx
      cases hx
      have hy:y∈os:=(Sn.inO_iff sn).mp hin y ((hmem y).mp (List.mem_of_getElem? ho))
      exact ⟨_,rfl,_,rfl,l,y,os,rfl,g1.seq hO,hy,_,rfl,rfl⟩
  · rintro σ H' ⟨f1,rfl,rfl⟩
    exact q _ g1
theorem ok_table_of_two (T:Txt P w K mg a):FnOk P w K mg base CX0 (k + 1) a.a_table_of_two a.d_table_of_two p_table_of_two spTwo:=by
  refine T.f_table_of_two.F.ok sc_table_of_two (fun vs H Q E h=>?_) (fun cdv A outer s H vs Q E hr h=>?_)
  · obtain ⟨o,N,M,n,f,g,rfl,_⟩:=h
    rfl
  obtain ⟨o,N,M,n,f,g,rfl,hN,hM,q⟩:=h
  refine ⟨_,(pss_cons (ps_if (pt_cmpR op_eq (pv 0) pe_str (nomark _)) (pss_one (ps_ret (pe_op op_andN (pv 1) (pv 2)))) pss_nil)
      (pss_cons (ps_if (pt_cmpR op_eq (pv 0) pe_str (nomark _)) (pss_one (ps_ret (pe_op op_orN (pv 1) (pv 2)))) pss_nil)
      (pss_cons (ps_if (pt_cmpR op_eq (pv 0) pe_str (nomark _)) (pss_one (ps_ret (pe_op op_xorN (pv 1) (pv 2)))) pss_nil)
      (pss_one (ps_ret (pe_op op_orN (pe_op op_xorN (pv 3) (pv 1)) (pv 2))))))),?_⟩
  rcases fin4 o with e | e | e | e
  · subst e
    exact ⟨_,rfl,rfl,_,rfl,ite2 (fun _=>⟨_,rfl,_,rfl,N,M,rfl,rfl,q _ (tab_and hN hM)⟩) (fun c=>absurd (decide_eq_true rfl) c)⟩
  · subst e
    refine ⟨_,rfl,rfl,_,rfl,ite2 (fun c=>absurd c (ne_str (show Str.ofString "or" ≠ Str.ofString "and" by decide +kernel))) (fun _=>?_)⟩
    exact ⟨_,rfl,rfl,_,rfl,ite2 (fun _=>⟨_,rfl,_,rfl,N,M,rfl,rfl,q _ (tab_or hN hM)⟩) (fun c=>absurd (decide_eq_true rfl) c)⟩
  · subst e
    refine ⟨_,rfl,rfl,_,rfl,ite2 (fun c=>absurd c (ne_str (show Str.ofString "either" ≠ Str.ofString "and" by decide +kernel))) (fun _=>?_)⟩
    refine ⟨_,rfl,rfl,_,rfl,ite2 (fun c=>absurd c (ne_str (show Str.ofString "either" ≠ Str.ofString "or" by decide +kernel))) (fun _=>?_)⟩
    exact ⟨_,rfl,rfl,_,rfl,ite2 (fun _=>⟨_,rfl,_,rfl,N,M,rfl,rfl,q _ (tab_xor hN hM)⟩) (fun c=>absurd (decide_eq_true rfl) c)⟩
  · subst e
    refine ⟨_,rfl,rfl,_,rfl,ite2 (fun c=>absurd c (ne_str (show Str.ofString "if" ≠ Str.ofString "and" by decide +kernel))) (fun _=>?_)⟩
    refine ⟨_,rfl,rfl,_,rfl,ite2 (fun c=>absurd c (ne_str (show Str.ofString "if" ≠ Str.ofString "or" by decide +kernel))) (fun _=>?_)⟩
    refine ⟨_,rfl,rfl,_,rfl,ite2 (fun c=>absurd c (ne_str (show Str.ofString "if" ≠ Str.ofString "either" by decide +kernel))) (fun _=>?_)⟩
    refine ⟨_,rfl,_,rfl,_,N,rfl,rfl,_,rfl,_,M,rfl,rfl,q _ (tab_congr (tab_or (tab_xor (tab_all n) hN) hM) fun b _=>?_)⟩
    show ((true != f b) || g b) = (!f b || g b)
    cases f b <;> rfl
theorem ok_table_step {d:Nat} (T:Txt P w K mg a) (G_all_rows:FnOk P w K mg base CX0 k a.a_all_rows a.d_all_rows p_all_rows spAllRows) (G_rows_with:FnOk P w K mg base CX0 k a.a_rows_with a.d_rows_with p_rows_with spRowsWith)
    (G_flipped:FnOk P w K mg base CX0 k a.a_flipped a.d_flipped p_flipped spFlipped) (G_parts_of:FnOk P w K mg base CX0 k a.a_parts_of a.d_parts_of p_parts_of spPartsOf)
    (G_table_of_two:FnOk P w K mg base CX0 k a.a_table_of_two a.d_table_of_two p_table_of_two spTwo)
    (G_table_of:FnOk P w K mg base CX0 k a.a_table_of a.d_table_of p_table_of (spTable K d)):FnOk P w K mg base CX0 (k + 1) a.a_table_of a.d_table_of p_table_of (spTable K (d + 1)):=by
  refine T.f_table_of.F.ok sc_table_of (fun vs H Q E h=>?_) (fun cdv A outer s H vs Q E hr h=>?_)
  · obtain ⟨p,l,sn,os,rfl,_⟩:=h
    rfl
  obtain ⟨p,l,sn,os,rfl,isp,hO,hin,h8,hd,q⟩:=h
  refine ⟨_,(pss_cons (ps_setA 2 sc_table_of.nd (pe_ix ix_tup (pv 0) pe_int (fun _ _=>rfl)))
      (pss_cons (ps_setA 3 sc_table_of.nd (pe_callB call_len_seq rfl T.n_len bt_len (pa_cons (pv 1) pa_nil)))
      (pss_cons (ps_if (pt_cmpR op_eq (pv 2) pe_str (nomark _)) (pss_one (ps_ret pe_int)) pss_nil)
      (pss_cons (ps_if (pt_cmpR op_eq (pv 2) pe_str (nomark _)) (pss_one (ps_ret (pe_callD G_all_rows hr T.f_all_rows (pa_cons (pv 3) pa_nil)))) pss_nil)
      (pss_cons (ps_if (pt_cmpR op_eq (pv 2) pe_str (nomark _)) (pss_one (ps_ret (pe_callD G_rows_with hr T.f_rows_with (pa_cons (pe_bm PySem.F.plainAttrs_list PySem.F.slot_list_index PySem.F.type_list_index mt_index (pv 1) (pa_cons (pe_ix ix_tup (pv 0) pe_int (fun _ _=>rfl)) pa_nil)) (pa_cons (pv 3) pa_nil))))) pss_nil)
      (pss_cons (ps_setLC (tt:=tYes) (i:=4) sc_table_of.nd rfl (Or.inl rfl) (.inl rfl) (osc:=defScope S_table_of) (js:=[1]) rfl (by show LcOk _ _ "part" ["order"]; exact lco (by decide +kernel)) rfl (pi_tup (pe_callD G_parts_of hr T.f_parts_of (pa_cons (pv 0) pa_nil))) (by show ∀ j∈([1]:List Nat),j < 5; decide) (fun cl C s₂ H₂ fp pins s' σ' H' Q I h=>wpAny_pure ⟨H',I,h⟩) (fun cl C s₂ H₂ fp=>(pe_callD G_table_of hr T.f_table_of (pa_cons (pv 0) (pa_cons (pv 1) pa_nil)))) rfl)
      (pss_cons (ps_if (pt_cmpR op_eq (pv 2) pe_str (nomark _)) (pss_one (ps_ret (pe_op op_xorN (pe_callD G_all_rows hr T.f_all_rows (pa_cons (pv 3) pa_nil)) (pe_ix ix_list (pv 4) pe_int (fun _ _=>rfl))))) pss_nil)
      (pss_cons (ps_if (pt_cmpR op_eq (pv 2) pe_str (nomark _)) (pss_one (ps_ret (pe_op op_orN (pe_ix ix_list (pv 4) pe_int (fun _ _=>rfl)) (pe_callD G_flipped hr T.f_flipped (pa_cons (pe_ix ix_list (pv 4) pe_int (fun _ _=>rfl)) (pa_cons (pe_bm PySem.F.plainAttrs_list PySem.F.slot_list_index PySem.F.type_list_index mt_index (pv 1) (pa_cons (pe_ix ix_tup (pv 0) pe_int (fun _ _=>rfl)) pa_nil)) (pa_cons (pv 3) pa_nil))))))) pss_nil)
      (pss_cons (ps_if (pt_cmpR op_eq (pv 2) pe_str (nomark _)) (pss_one (ps_ret (pe_op op_andN (pe_ix ix_list (pv 4) pe_int (fun _ _=>rfl)) (pe_callD G_flipped hr T.f_flipped (pa_cons (pe_ix ix_list (pv 4) pe_int (fun _ _=>rfl)) (pa_cons (pe_bm PySem.F.plainAttrs_list PySem.F.slot_list_index PySem.F.type_list_index mt_index (pv 1) (pa_cons (pe_ix ix_tup (pv 0) pe_int (fun _ _=>rfl)) pa_nil)) (pa_cons (pv 3) pa_nil))))))) pss_nil)
      (pss_one (ps_ret (pe_callD G_table_of_two hr T.f_table_of_two (pa_cons (pv 2) (pa_cons (pe_ix ix_list (pv 4) pe_int (fun _ _=>rfl)) (pa_cons (pe_ix ix_list (pv 4) pe_int (fun _ _=>rfl)) (pa_cons (pe_callD G_all_rows hr T.f_all_rows (pa_cons (pv 3) pa_nil)) pa_nil)))))))))))))))),?_⟩
  have hlen:(os.map V.str).length = os.length:=List.length_map _
  obtain ⟨zs,c1,c2,c3,c4,c5⟩:=sen_cut isp
  have lz:=pd_len c2
  have lp2:=Sn.parts_le sn
  refine ⟨_,rfl,p,_,0,_,rfl,rfl,SqT.of c1,at0,?_⟩
  refine ⟨_,rfl,l,_,rfl,.inl hO,?_⟩
  rw [hlen]
  have comp:∀ {σ:St} {Q2:Addr→Hp→List V→Prop},σ.getD 1 none = some (.ref l)→(∀ (b:Addr) (ys:List V) (H':Hp),Same H H'→H' b = none→ys.length = sn.parts.length→(∀ (j:Nat) v,ys[j]? = some v→∃ t N,sn.parts[j]? = some t∧v = .int (N:Nat)∧TabOf os t N)→Q2 b H' ys) →
      ∀ b0,H b0 = none→∃ W:Nat→Nat→List V→Hp→Prop,(∃ m,W 0 m [] (upd H b0 (.tup (zs.map V.ref))))∧∀ i m ys H,W i m ys H →
        ((Itt K b0).stop i H∧∀ p,H p = none→Q2 p H ys) ∨
        ((Itt K b0).go i H∧ys.length < sizeLine∧∀ x H',(Itt K b0).yld i H x H'→tYes (lcS σ [1] (some x)) H' fun b H2 =>
          if b = true then tCall (spTable K d) [] E0 (tCons (tVar 0) (tCons (tVar 1) tNil)) (lcS σ [1] (some x)) H2 fun v H3=>∃ m',m' < m∧W (i + 1) m' (ys ++ [v]) H3 else ∃ m',m' < m∧W (i + 1) m' ys H2):=by
    intro σ Q2 hσ hQ2 b0 hb0
    have g0:=Same.new hb0 (.tup (zs.map V.ref))
    refine lc_idxT (fun j v=>∃ t N,sn.parts[j]? = some t∧v = .int ((N:Nat):Int)∧TabOf os t N) (SqT.of upd_same) (by rw [List.length_map]; exact Nat.le_of_lt (small1000 (by omega))) ?_ (mono2 (mono_table d)) ?_
    · intro i x H' hx g
      rw [List.getElem?_map] at hx
      cases ho:zs[i]? with
      | none=>rw [ho] at hx; cases hx
      | some y =>
        rw [ho] at hx
        cases hx
        obtain ⟨t,ht,it⟩:=pd_ta c2 ho
        have htm:=List.mem_of_getElem? ht
        have dp:=Sn.depth_parts sn t htm
        refine ⟨_,rfl,.ref l,?_,y,l,t,os,rfl,it.mono (Tups.of (g0.trans g)),(g0.trans g).seq hO,Sn.inO_parts sn hin t htm,h8,by omega,fun N H3 g3 hN=>⟨⟨t,N,ht,rfl,hN⟩,g.trans g3⟩⟩
        show some (σ.getD 1 none) = _
        rw [hσ]
    · intro ys H' pp hl hy g hpp
      exact hQ2 pp ys H' (g0.trans g) hpp (by rw [hl,List.length_map]; exact lz.symm) hy
  cases sn with
  | c0 y =>
    cases y with
    | false=>exact ⟨_,rfl,rfl,_,rfl,ite2 (fun _=>q 0 _ (Same.refl _) (tab_zero _)) (fun c=>absurd (decide_eq_true rfl) c)⟩
    | true =>
      refine ⟨_,rfl,rfl,_,rfl,ite2 (fun c=>absurd c (ne_str (show Str.ofString "yes" ≠ Str.ofString "no" by decide +kernel))) (fun _=>?_)⟩
      exact ⟨_,rfl,rfl,_,rfl,ite2 (fun _=>⟨_,rfl,os.length,rfl,h8,q _ _ (Same.refl _) (tab_all _)⟩) (fun c=>absurd (decide_eq_true rfl) c)⟩
  | mk x =>
    refine ⟨_,rfl,rfl,_,rfl,ite2 (fun c=>absurd c (ne_str (show Str.ofString "mark" ≠ Str.ofString "no" by decide +kernel))) (fun _=>?_)⟩
    refine ⟨_,rfl,rfl,_,rfl,ite2 (fun c=>absurd c (ne_str (show Str.ofString "mark" ≠ Str.ofString "yes" by decide +kernel))) (fun _=>?_)⟩
    obtain ⟨i1,i2,i3⟩:=ix_spec (show x∈os from hin)
    have isp':H p = some (.tup [.str "mark", .str x]):=isp
    exact ⟨_,rfl,rfl,_,rfl,ite2 (fun _=>⟨_,rfl,.inl ⟨rfl,_,hO⟩,_,rfl,p,_,1,_,rfl,rfl,SqT.of isp',at1,l,_,.str x,_,rfl,rfl,hO,rfl,flat_strs _,i1,_,rfl,ix os x,os.length,rfl,i2,h8,fun R hR=>q R _ (Same.refl _) hR⟩) (fun c=>absurd (decide_eq_true rfl) c)⟩
  | nt s1 =>
    refine ⟨_,rfl,rfl,_,rfl,ite2 (fun c=>absurd c (ne_str (show Str.ofString "not" ≠ Str.ofString "no" by decide +kernel))) (fun _=>?_)⟩
    refine ⟨_,rfl,rfl,_,rfl,ite2 (fun c=>absurd c (ne_str (show Str.ofString "not" ≠ Str.ofString "yes" by decide +kernel))) (fun _=>?_)⟩
    refine ⟨_,rfl,rfl,_,rfl,ite2 (fun c=>absurd c (ne_str (show Str.ofString "not" ≠ Str.ofString "mark" by decide +kernel))) (fun _=>?_)⟩
    refine ⟨_,rfl,p,_,_,_,_,rfl,c1,shape_in (.nt s1),c3,fun b0 hb0=>?_⟩
    rw [c5]
    refine ⟨b0,rfl,⟨_,SqT.of upd_same⟩,comp rfl (fun b ys H0 g0 hb0' hyl hy=>?_) b0 hb0⟩
    have hb:=upd_same (H:=H0) (a:=b) (o:=.lst ys)
    have g:=g0.trans (Same.new hb0' (.lst ys))
    obtain ⟨v,rfl⟩:=len1 hyl
    obtain ⟨t,N,ht,rfl,hN⟩:=hy 0 v rfl
    cases ht
    refine ⟨_,rfl,rfl,_,rfl,ite2 (fun _=>⟨_,rfl,os.length,rfl,h8,_,rfl,b,_,0,_,rfl,rfl,SqL.of hb,at0,_,N,rfl,rfl,q _ _ g (tab_congr (tab_xor (tab_all _) hN) fun z _=>?_)⟩) (fun c=>absurd (decide_eq_true rfl) c)⟩
    show (true != s1.val (envB os z)) = !s1.val (envB os z)
    cases s1.val (envB os z) <;> rfl
  | b2 o s1 s2 =>
    have w1:w2 o≠Str.ofString "no" := w2_no o
    have w2':w2 o≠Str.ofString "yes" := w2_yes o
    have w3:w2 o≠Str.ofString "mark" := w2_mark o
    have w4:w2 o≠Str.ofString "not" := w2_not o
    have w5:w2 o≠Str.ofString "some" := w2_some o
    have w6:w2 o≠Str.ofString "each" := w2_each o
    refine ⟨_,rfl,rfl,_,rfl,ite2 (fun c=>absurd c (ne_str w1)) (fun _=>?_)⟩
    refine ⟨_,rfl,rfl,_,rfl,ite2 (fun c=>absurd c (ne_str w2')) (fun _=>?_)⟩
    refine ⟨_,rfl,rfl,_,rfl,ite2 (fun c=>absurd c (ne_str w3)) (fun _=>?_)⟩
    refine ⟨_,rfl,p,_,_,_,_,rfl,c1,shape_in (.b2 o s1 s2),c3,fun b0 hb0=>?_⟩
    rw [c5]
    refine ⟨b0,rfl,⟨_,SqT.of upd_same⟩,comp rfl (fun b ys H0 g0 hb0' hyl hy=>?_) b0 hb0⟩
    have hb:=upd_same (H:=H0) (a:=b) (o:=.lst ys)
    have g:=g0.trans (Same.new hb0' (.lst ys))
    obtain ⟨v,u,rfl⟩:=len2 hyl
    obtain ⟨t,N,ht,rfl,hN⟩:=hy 0 v rfl
    obtain ⟨t',M,ht',rfl,hM⟩:=hy 1 u rfl
    cases ht
    cases ht'
    refine ⟨_,rfl,rfl,_,rfl,ite2 (fun c=>absurd c (ne_str w4)) (fun _=>?_)⟩
    refine ⟨_,rfl,rfl,_,rfl,ite2 (fun c=>absurd c (ne_str w5)) (fun _=>?_)⟩
    refine ⟨_,rfl,rfl,_,rfl,ite2 (fun c=>absurd c (ne_str w6)) (fun _=>?_)⟩
    exact ⟨_,rfl,_,rfl,b,_,0,_,rfl,rfl,SqL.of hb,at0,_,rfl,b,_,1,_,rfl,rfl,SqL.of hb,at1,_,rfl,os.length,rfl,h8,o,N,M,os.length,_,_,rfl,hN,hM,fun R hR=>q R _ g hR⟩
  | q1 o x s1 =>
    obtain ⟨hx,hs1⟩:=hin
    obtain ⟨i1,i2,i3⟩:=ix_spec hx
    cases o with
    | true =>
      refine ⟨_,rfl,rfl,_,rfl,ite2 (fun c=>absurd c (ne_str (show Str.ofString "some" ≠ Str.ofString "no" by decide +kernel))) (fun _=>?_)⟩
      refine ⟨_,rfl,rfl,_,rfl,ite2 (fun c=>absurd c (ne_str (show Str.ofString "some" ≠ Str.ofString "yes" by decide +kernel))) (fun _=>?_)⟩
      refine ⟨_,rfl,rfl,_,rfl,ite2 (fun c=>absurd c (ne_str (show Str.ofString "some" ≠ Str.ofString "mark" by decide +kernel))) (fun _=>?_)⟩
      refine ⟨_,rfl,p,_,_,_,_,rfl,c1,shape_in (.q1 true x s1),c3,fun b0 hb0=>?_⟩
      rw [c5]
      refine ⟨b0,rfl,⟨_,SqT.of upd_same⟩,comp rfl (fun b ys H0 g0 hb0' hyl hy=>?_) b0 hb0⟩
      have hb:=upd_same (H:=H0) (a:=b) (o:=.lst ys)
      have g:=g0.trans (Same.new hb0' (.lst ys))
      obtain ⟨v,rfl⟩:=len1 hyl
      obtain ⟨t,N,ht,rfl,hN⟩:=hy 0 v rfl
      cases ht
      have c1':=g _ _ c1
      refine ⟨_,rfl,rfl,_,rfl,ite2 (fun c=>absurd c (ne_str (show Str.ofString "some" ≠ Str.ofString "not" by decide +kernel))) (fun _=>?_)⟩
      refine ⟨_,rfl,rfl,_,rfl,ite2 (fun _=>?_) (fun c=>absurd (decide_eq_true rfl) c)⟩
      refine ⟨_,rfl,b,_,0,_,rfl,rfl,SqL.of hb,at0,_,rfl,b,_,0,_,rfl,rfl,SqL.of hb,at0,_,rfl,.inl ⟨rfl,_,g.seq hO⟩,_,rfl,p,_,1,_,rfl,rfl,SqT.of c1',at1,l,_,.str x,_,rfl,rfl,g.seq hO,rfl,flat_strs _,i1,_,rfl,N,ix os x,os.length,_,rfl,i2,h8,hN,fun R hR=>⟨N,R,rfl,rfl,q _ _ g (tab_congr (tab_or hN hR) fun z _=>?_)⟩⟩
      exact (val_some hs1 hx z).symm
    | false =>
      refine ⟨_,rfl,rfl,_,rfl,ite2 (fun c=>absurd c (ne_str (show Str.ofString "each" ≠ Str.ofString "no" by decide +kernel))) (fun _=>?_)⟩
      refine ⟨_,rfl,rfl,_,rfl,ite2 (fun c=>absurd c (ne_str (show Str.ofString "each" ≠ Str.ofString "yes" by decide +kernel))) (fun _=>?_)⟩
      refine ⟨_,rfl,rfl,_,rfl,ite2 (fun c=>absurd c (ne_str (show Str.ofString "each" ≠ Str.ofString "mark" by decide +kernel))) (fun _=>?_)⟩
      refine ⟨_,rfl,p,_,_,_,_,rfl,c1,shape_in (.q1 false x s1),c3,fun b0 hb0=>?_⟩
      rw [c5]
      refine ⟨b0,rfl,⟨_,SqT.of upd_same⟩,comp rfl (fun b ys H0 g0 hb0' hyl hy=>?_) b0 hb0⟩
      have hb:=upd_same (H:=H0) (a:=b) (o:=.lst ys)
      have g:=g0.trans (Same.new hb0' (.lst ys))
      obtain ⟨v,rfl⟩:=len1 hyl
      obtain ⟨t,N,ht,rfl,hN⟩:=hy 0 v rfl
      cases ht
      have c1':=g _ _ c1
      refine ⟨_,rfl,rfl,_,rfl,ite2 (fun c=>absurd c (ne_str (show Str.ofString "each" ≠ Str.ofString "not" by decide +kernel))) (fun _=>?_)⟩
      refine ⟨_,rfl,rfl,_,rfl,ite2 (fun c=>absurd c (ne_str (show Str.ofString "each" ≠ Str.ofString "some" by decide +kernel))) (fun _=>?_)⟩
      refine ⟨_,rfl,rfl,_,rfl,ite2 (fun _=>?_) (fun c=>absurd (decide_eq_true rfl) c)⟩
      refine ⟨_,rfl,b,_,0,_,rfl,rfl,SqL.of hb,at0,_,rfl,b,_,0,_,rfl,rfl,SqL.of hb,at0,_,rfl,.inl ⟨rfl,_,g.seq hO⟩,_,rfl,p,_,1,_,rfl,rfl,SqT.of c1',at1,l,_,.str x,_,rfl,rfl,g.seq hO,rfl,flat_strs _,i1,_,rfl,N,ix os x,os.length,_,rfl,i2,h8,hN,fun R hR=>⟨N,R,rfl,rfl,q _ _ g (tab_congr (tab_and hN hR) fun z _=>?_)⟩⟩
      exact (val_each hs1 hx z).symm
theorem ok_table_of (T:Txt P w K mg a) (G_all_rows:FnOk P w K mg base CX0 k a.a_all_rows a.d_all_rows p_all_rows spAllRows) (G_rows_with:FnOk P w K mg base CX0 k a.a_rows_with a.d_rows_with p_rows_with spRowsWith)
    (G_flipped:FnOk P w K mg base CX0 k a.a_flipped a.d_flipped p_flipped spFlipped) (G_parts_of:FnOk P w K mg base CX0 k a.a_parts_of a.d_parts_of p_parts_of spPartsOf)
    (G_table_of_two:FnOk P w K mg base CX0 k a.a_table_of_two a.d_table_of_two p_table_of_two spTwo):∀ d:Nat,FnOk P w K mg base CX0 (k + d) a.a_table_of a.d_table_of p_table_of (spTable K d)
  | 0=>by
    refine ⟨fun vs H Q E h=>?_,fun A outer s H args us vs Q E _ _ _ _ h=>?_⟩
    · obtain ⟨p,l,sn,os,rfl,_⟩:=h
      rfl
    · obtain ⟨p,l,sn,os,_,_,_,_,_,hd,_⟩:=h
      have:=Sn.depth_pos sn
      omega
  | d + 1=>ok_table_step T (G_all_rows.mono (Nat.le_add_right _ _)) (G_rows_with.mono (Nat.le_add_right _ _)) (G_flipped.mono (Nat.le_add_right _ _)) (G_parts_of.mono (Nat.le_add_right _ _)) (G_table_of_two.mono (Nat.le_add_right _ _)) (ok_table_of T G_all_rows G_rows_with G_flipped G_parts_of G_table_of_two d)
end
end K60
namespace K60
open PySem L2 Sen
section
variable {P:Program} {w:World} {K:PySem.W.Frag} {mg:Str→Option Value} {base:Heap} {a:Ad} {k:Nat}
theorem ok_held_at (T:Txt P w K mg a) (G_rows_with:FnOk P w K mg base CX0 k a.a_rows_with a.d_rows_with p_rows_with spRowsWith) (G_flipped:FnOk P w K mg base CX0 k a.a_flipped a.d_flipped p_flipped spFlipped):FnOk P w K mg base CX0 (k + 1) a.a_held_at a.d_held_at p_held_at spHeldAt:=by
  refine T.f_held_at.F.ok sc_held_at (fun vs H Q E h=>?_) (fun cdv A outer s H vs Q E hr h=>?_)
  · obtain ⟨N,p,n,v,f,rfl,_⟩:=h
    rfl
  obtain ⟨N,p,n,v,f,rfl,hp,hn,tb,q⟩:=h
  refine ⟨_,(pss_cons (ps_setA 4 sc_held_at.nd (pe_op op_andN (pv 0) (pe_callD G_rows_with hr T.f_rows_with (pa_cons (pv 1) (pa_cons (pv 3) pa_nil)))))
      (pss_cons (ps_setA 5 sc_held_at.nd (pe_ifExp (pt_cmpR op_eq (pv 2) pe_int (nomark _)) (pv 4) (pe_op op_xorN (pv 0) (pv 4))))
      (pss_one (ps_ret (pe_op op_orN (pv 5) (pe_callD G_flipped hr T.f_flipped (pa_cons (pv 5) (pa_cons (pv 1) (pa_cons (pv 3) pa_nil))))))))),?_⟩
  refine ⟨_,rfl,_,rfl,_,rfl,p,n,rfl,hp,hn,fun R tr=>?_⟩
  refine ⟨N,R,rfl,rfl,?_⟩
  have o:=Sen.tab_and tb tr
  refine ⟨_,rfl,rfl,_,rfl,?_⟩
  cases v with
  | true =>
    refine ite2 (fun _=>?_) (fun c=>absurd (decide_eq_true rfl) c)
    refine ⟨_,rfl,?_⟩
    refine ⟨_,rfl,_,rfl,_,rfl,_,rfl,N &&& R,p,n,_,rfl,hp,hn,o,fun R2 t2=>?_⟩
    refine ⟨_,_,rfl,rfl,q _ (tab_congr (Sen.tab_or o t2) fun b hb=>?_)⟩
    show ((f b && b.testBit p) || (f (putBit b p (!b.testBit p)) && (putBit b p (!b.testBit p)).testBit p)) = f (putBit b p true)
    rw [putBit_bit,if_pos rfl]
    cases e:b.testBit p
    · simp
    · rw [← e,Bdd.putBit_self,e]; simp
  | false =>
    refine ite2 (fun c=>absurd (of_decide_eq_true c) (fun z=>by injection z with z; revert z; decide)) (fun _=>?_)
    have z:=Sen.tab_xor tb o
    refine ⟨_,rfl,_,rfl,N,N &&& R,rfl,rfl,?_⟩
    refine ⟨_,rfl,_,rfl,_,rfl,_,rfl,N ^^^ (N &&& R),p,n,_,rfl,hp,hn,z,fun R2 t2=>?_⟩
    refine ⟨_,_,rfl,rfl,q _ (tab_congr (Sen.tab_or z t2) fun b hb=>?_)⟩
    show ((f b != (f b && b.testBit p)) || (f (putBit b p (!b.testBit p)) != (f (putBit b p (!b.testBit p)) && (putBit b p (!b.testBit p)).testBit p))) = f (putBit b p false)
    rw [putBit_bit,if_pos rfl]
    cases e:b.testBit p
    · rw [← e,Bdd.putBit_self,e]; simp
    · simp
theorem ok_hangs_on (T:Txt P w K mg a) (G_flipped:FnOk P w K mg base CX0 k a.a_flipped a.d_flipped p_flipped spFlipped):FnOk P w K mg base CX0 (k + 1) a.a_hangs_on a.d_hangs_on p_hangs_on spHangs:=by
  refine T.f_hangs_on.F.ok sc_hangs_on (fun vs H Q E h=>?_) (fun cdv A outer s H vs Q E hr h=>?_)
  · obtain ⟨N,p,n,f,rfl,_⟩:=h
    rfl
  obtain ⟨N,p,n,f,rfl,hp,hn,tb,q⟩:=h
  refine ⟨_,(pss_one (ps_ret (pe_cmpR op_ne (pe_callD G_flipped hr T.f_flipped (pa_cons (pv 0) (pa_cons (pv 1) (pa_cons (pv 2) pa_nil)))) (pv 0) (nomark _)))),?_⟩
  refine ⟨_,rfl,_,rfl,_,rfl,N,p,n,f,rfl,hp,hn,tb,fun R tr=>?_⟩
  refine ⟨_,rfl,rfl,?_⟩
  refine q _ (fun e=>?_) (fun e=>?_)
  · have e1:R = N:=by
      have z:V.int (R:Nat) = V.int (N:Nat):=of_decide_eq_true (by simpa using e)
      injection z with z
      omega
    subst e1
    refine Bdd.Free.of_flip fun b hb=>?_
    rw [← Bdd.tab_val tr hb,Bdd.tab_val tb hb]
  · refine Classical.byContradiction fun no=>?_
    have e1:R = N:=Bdd.tab_inj tr tb fun b hb=>by
      refine Classical.byContradiction fun ne=>no ⟨b,hb,fun z=>ne ?_⟩
      show f (putBit b p (!b.testBit p)) = f b
      cases e:b.testBit p
      · rw [Bool.not_false,← z,← e,Bdd.putBit_self]
      · rw [Bool.not_true,z,← e,Bdd.putBit_self]
    subst e1
    rw [decide_eq_true rfl] at e
    cases e
theorem ok_first_place (T:Txt P w K mg a) (G_hangs_on:FnOk P w K mg base CX0 k a.a_hangs_on a.d_hangs_on p_hangs_on spHangs):FnOk P w K mg base CX0 (k + 1) a.a_first_place a.d_first_place p_first_place spFirst:=by
  refine T.f_first_place.F.ok sc_first_place (fun vs H Q E h=>?_) (fun cdv A outer s H vs Q E hr h=>?_)
  · obtain ⟨N,n,f,rfl,_⟩:=h
    rfl
  obtain ⟨N,n,f,rfl,hn,tb,q⟩:=h
  refine ⟨_,(pss_cons (ps_setA 2 sc_first_place.nd pe_int)
      (pss_cons (ps_while PassesOwn.never (PW.pt (pw_and (pt_cmpR op_lt (pv 2) (pv 1) (nomark _)) (pw_and1 (pt_not (pt_truth (pe_callD G_hangs_on hr T.f_hangs_on (pa_cons (pv 0) (pa_cons (pv 2) (pa_cons (pv 1) pa_nil)))) (fun _=>rfl)))))) (pss_one (ps_aug (i:=2) sc_first_place.nd rfl (Or.inl rfl) pe_int iop_add)))
      (pss_one (ps_ret (pv 2))))),?_⟩
  refine ⟨fun m σ H'=>∃ p:Nat,m = n - p∧H' = H∧p≤n∧(∀ i,i < p→Bdd.Free n f i)∧σ = [some (.int N),some (.int n),some (.int p)],⟨_,0,rfl,rfl,Nat.zero_le _,fun i hi=>absurd hi (Nat.not_lt_zero _),rfl⟩,?_⟩
  rintro m σ H' ⟨p,rfl,rfl,hp,fr,rfl⟩
  refine ⟨_,rfl,_,rfl,_,_,rfl,rfl,_,rfl,ite2 (fun c=>?_) (fun c=>?_)⟩
  · have hpn:p < n:=by have:=of_decide_eq_true c; omega
    refine ⟨_,rfl,_,rfl,_,rfl,N,p,n,f,rfl,hpn,hn,tb,fun b hf ht=>?_⟩
    cases b with
    | false =>
      refine ⟨_,rfl,ite2 (fun c2=>?_) (fun c2=>absurd rfl c2)⟩
      refine ⟨_,fun σ' H2 h=>h,?_⟩
      refine ⟨_,rfl,_,_,rfl,rfl,n - (p + 1),by omega,p + 1,rfl,rfl,hpn,fun i hi=>?_,rfl⟩
      by_cases e:i = p
      · subst e
        exact hf rfl
      · exact fr i (by omega)
    | true =>
      refine ⟨_,rfl,ite2 (fun c2=>absurd c2 Bool.false_ne_true) (fun c2=>?_)⟩
      exact ⟨_,rfl,q p hp fr fun _=>ht rfl⟩
  · refine ⟨_,rfl,q p hp fr fun h=>absurd (decide_eq_true (by omega)) c⟩
theorem ok_Book_room_stepH {d:Nat} (T:Txt P w K mg a) (G_first_place:FnOk P w K mg base CX0 k a.a_first_place a.d_first_place p_first_place spFirst) (G_held_at:FnOk P w K mg base CX0 k a.a_held_at a.d_held_at p_held_at spHeldAt)
    (G_Book_room_with:FnOk P w K mg base CX0 k a.a_Book_room_with a.d_Book_room_with p_Book_room_with (spRoomWithH a.a_Book d)):FnOk P w K mg base CX0 (k + 1) a.a_Book_room_with a.d_Book_room_with p_Book_room_with (spRoomWithH a.a_Book (d + 1)):=by
  refine T.f_Book_room_with.F.ok sc_Book_room_with (fun vs H Q E h=>?_) (fun cdv A outer s H vs Q E hr h=>?_)
  · obtain ⟨b,os,rs,F,t,u,f,rfl,_⟩:=h
    rfl
  obtain ⟨b,os,rs,F,t,u,f,rfl,hB,hlen,hu,hd,tb,fr,q⟩:=h
  refine ⟨_,(pss_cons (ps_if (pt_cmp (pc_dnotin (hu_of hr) (pv 1) (pe_fld (pv 0) rfl))) (pss_cons (ps_setA 2 sc_Book_room_with.nd (pe_callB call_len_seq rfl T.n_len bt_len (pa_cons (pe_fld (pv 0) rfl) pa_nil)))
      (pss_cons (ps_setA 3 sc_Book_room_with.nd (pe_callD G_first_place hr T.f_first_place (pa_cons (pv 1) (pa_cons (pv 2) pa_nil))))
      (pss_cons (ps_setA 4 sc_Book_room_with.nd (pe_methD (pv 0) T.c_Book T.f_Book_room_with G_Book_room_with hr (pa_cons (pe_callD G_held_at hr T.f_held_at (pa_cons (pv 1) (pa_cons (pv 3) (pa_cons pe_int (pa_cons (pv 2) pa_nil))))) pa_nil)))
      (pss_cons (ps_setA 5 sc_Book_room_with.nd (pe_methD (pv 0) T.c_Book T.f_Book_room_with G_Book_room_with hr (pa_cons (pe_callD G_held_at hr T.f_held_at (pa_cons (pv 1) (pa_cons (pv 3) (pa_cons pe_int (pa_cons (pv 2) pa_nil))))) pa_nil)))
      (pss_cons (ps_dput (hu_of hr) (pe_fld (pv 0) rfl) (pv 1) (pe_callB call_len_seq rfl T.n_len bt_len (pa_cons (pe_fld (pv 0) rfl) pa_nil)) rfl)
      (pss_cons (ps_expr (pe_bm PySem.F.plainAttrs_list PySem.F.slot_list_append PySem.F.type_list_append mt_append (pe_fld (pv 0) rfl) (pa_cons (pe_tup (pa_cons (pv 3) (pa_cons (pv 4) (pa_cons (pv 5) pa_nil)))) pa_nil)))
      (pss_one (ps_expr (pe_bm PySem.F.plainAttrs_list PySem.F.slot_list_append PySem.F.type_list_append mt_append (pe_fld (pv 0) rfl) (pa_cons (pv 1) pa_nil)))))))))) pss_nil)
      (pss_one (ps_ret (pe_dget (hu_of hr) (pe_fld (pv 0) rfl) (pv 1) (fun _ _=>rfl))))),?_⟩
  have hB0:=hB
  obtain ⟨dx,ml,rl,tl,nd,rv,ts,kvs,h⟩:=hB
  have n8:os.length≤8:=h.ord.le
  have hml:(os.map V.str).length = os.length:=List.length_map _
  have pw:2 ^ (d + 1) = 2 ^ d + 2 ^ d:=by rw [Nat.pow_succ]; omega
  have pd:1≤2 ^ d:=Nat.one_le_two_pow
  have pn:2 ^ os.length≤256:=Sen.two8 n8
  refine ⟨_,rfl,_,rfl,b,a.a_Book,dx,_,_,rfl,h.hb,T.c_Book,T.na_Book_numbers,rfl,nd,_,rfl,DGet.k (k:=.inl (t:Int)) h.hd,?_⟩
  by_cases hm:t∈ts
  · obtain ⟨j,hj,ej⟩:=List.getElem_of_mem hm
    have ej':ts[j]? = some t:=by rw [List.getElem?_eq_getElem hj,ej]
    have ev:=h.nums.get j t ej'
    have z:=DGet.k (k:=.inl (t:Int)) h.hd
    rw [ev] at z
    rw [ev]
    refine ⟨_,rfl,iteF ?_⟩
    refine ⟨_,rfl,b,a.a_Book,dx,_,_,rfl,h.hb,T.c_Book,T.na_Book_numbers,rfl,_,rfl,nd,_,rfl,z,?_⟩
    refine q j rs H (fun x o e _=>e) (fun _ _ e=>e) hB0 (.refl _) (by rw [← h.tabs.len]; exact hj) (h.tabs.find h.bk ej' tb) (by omega) (fun j h1 h2=>by omega) (Nat.le_add_right _ _)
  · have ev:=h.nums.non t hm
    rw [ev]
    refine ⟨_,rfl,iteT ?_⟩
    refine ⟨_,rfl,b,a.a_Book,dx,_,_,rfl,h.hb,T.c_Book,T.na_Book_marks,rfl,ml,_,rfl,.inl (SqL.of h.hm),?_⟩
    rw [hml]
    refine ⟨_,rfl,_,rfl,t,os.length,f,rfl,n8,tb,fun p hp0 frp dep=>?_⟩
    have hp:p < os.length:=by
      refine Nat.lt_of_le_of_ne hp0 fun e=>hm ?_
      subst e
      have cs:=Bdd.const_of_free frp
      have two:=Bdd.len2 h.bk
      cases hf:f 0 with
      | false=>exact List.mem_of_getElem? (h.tabs.same (j:=0) (by omega) tb fun r=>by rw [cs _ (Bdd.bits_lt _ _),hf]; rfl)
      | true=>exact List.mem_of_getElem? (h.tabs.same (j:=1) (by omega) tb fun r=>by rw [cs _ (Bdd.bits_lt _ _),hf]; exact Bdd.yes_yes h.bk r)
    have hup:u≤p:=by
      refine Nat.le_of_not_lt fun hlt=>?_
      obtain ⟨c,hc,hne⟩:=dep hp
      exact hne (by rw [fr p hlt c hc,fr p hlt c hc])
    have fre:∀ (v:Bool) i,i < p + 1→Bdd.Free os.length (fun c=>f (putBit c p v)) i:=fun v i hi c hc v'=>by
      show f (putBit (putBit c i v') p v) = f (putBit c p v)
      by_cases e:i = p
      · subst e
        congr 1
        refine Bdd.eq_bits (putBit_lt (putBit_lt hc hp) hp) (putBit_lt hc hp) fun j _=>?_
        rw [putBit_bit,putBit_bit,putBit_bit]
        by_cases e:j = i
        · rw [if_pos e,if_pos e]
        · rw [if_neg e,if_neg e,if_neg e]
      · rw [← frp i (by omega) _ (putBit_lt (v:=v) hc hp) v']
        congr 1
        refine Bdd.eq_bits (putBit_lt (putBit_lt hc (by omega)) hp) (putBit_lt (putBit_lt hc hp) (by omega)) fun j _=>?_
        rw [putBit_bit,putBit_bit,putBit_bit,putBit_bit]
        by_cases e1:j = p
        · rw [if_pos e1,if_pos e1,if_neg (by omega)]
        · rw [if_neg e1,if_neg e1]
    refine ⟨_,rfl,b,dx,_,rfl,h.hb,rfl,_,rfl,_,rfl,_,rfl,t,p,os.length,false,f,rfl,hp,n8,tb,fun R0 tr0=>?_⟩
    refine ⟨b,os,rs,F,R0,p + 1,_,rfl,hB0,by omega,hp,by omega,tr0,fre false,fun k0 rs1 H1 aw1 tu1 hB1 gr1 lt1 y1 ln1 lv1 hh1=>?_⟩
    have hB1':=hB1
    obtain ⟨dx1,ml1,rl1,tl1,nd1,rv1,ts1,kvs1,h1⟩:=hB1
    refine ⟨_,rfl,b,dx1,_,rfl,h1.hb,rfl,_,rfl,_,rfl,_,rfl,t,p,os.length,true,f,rfl,hp,n8,tb,fun R1 tr1=>?_⟩
    refine ⟨b,os,rs1,F,R1,p + 1,_,rfl,hB1',by omega,hp,by omega,tr1,fre true,fun k1 rs2 H2 aw2 tu2 hB2 gr2 lt2 y2 ln2 lv2 hh2=>?_⟩
    obtain ⟨dx2,ml2,rl2,tl2,nd2,rv2,ts2,kvs2,h2⟩:=hB2
    have lt1':k0 < rs2.length:=Nat.lt_of_lt_of_le lt1 gr2.len
    have y1':∀ r,Bdd.yes rs2 k0 r = f (putBit (Bdd.bits r os.length) p false):=fun r=>by rw [gr2.yes h1.bk lt1]; exact y1 r
    have g02:=gr1.trans gr2
    have lrs:=g02.len
    have lvs:∀ j,rs.length≤j→j < rs2.length→p < Bdd.lev os.length rs2 j:=fun j a1 a2=>by
      by_cases hj:j < rs1.length
      · rw [gr2.lev hj]; exact lv1 j a1 hj
      · exact lv2 j (by omega) a2
    have old:∀ j,j < rs.length→¬ ∀ r,Bdd.yes rs2 j r = f (Bdd.bits r os.length):=fun j hj hy=>hm (List.mem_of_getElem? (h.tabs.same hj tb fun r=>by rw [← g02.yes h.bk hj]; exact hy r))
    obtain ⟨B',yn⟩:=Bdd.room_new h2.bk hp lt1' lt2 y1' y2 frp (dep hp) old lvs
    have hn2:t ∉ ts2:=fun hm2=>by
      obtain ⟨j,hj,ej⟩:=List.getElem_of_mem hm2
      have ej':ts2[j]? = some t:=by rw [List.getElem?_eq_getElem hj,ej]
      have hjr:j < rs2.length:=by rw [← h2.tabs.len]; exact hj
      have hy:=h2.tabs.find h2.bk ej' tb
      by_cases hjo:j < rs.length
      · exact old j hjo hy
      · obtain ⟨c,hc,hne⟩:=dep hp
        have lv:=lvs j (by omega) hjr
        refine hne ?_
        have a1:=hy (Bdd.put (Bdd.rowN c) p false)
        have a2:=hy (Bdd.put (Bdd.rowN c) p true)
        rw [Bdd.yes_put h2.bk hjr lv,Bdd.bits_put hp,Bdd.bits_rowN hc] at a1 a2
        exact a1.symm.trans a2
    have l2:=h2.len
    have s2:rs2.length < sizeLine:=Nat.lt_of_lt_of_le (show rs2.length < 9000001 by omega) (by decide)
    refine ⟨_,rfl,b,a.a_Book,dx2,_,_,rfl,h2.hb,T.c_Book,T.na_Book_rooms,rfl,rl2,_,rfl,.inl (SqL.of h2.hr),?_⟩
    rw [l2]
    refine ⟨_,rfl,b,a.a_Book,dx2,_,_,rfl,h2.hb,T.c_Book,T.na_Book_numbers,rfl,_,rfl,nd2,_,rfl,DPut.k (k:=.inl (t:Int)) h2.hd (by have:=h2.nums.len; have:=h2.tabs.len; omega),?_⟩
    have nb:nd2≠b:=ne_of h2.hd h2.hb (by intro z; cases z)
    have nm:nd2≠ml2:=ne_of h2.hd h2.hm (by intro z; cases z)
    have nr:nd2≠rl2:=ne_of h2.hd h2.hr (by intro z; cases z)
    have nt:nd2≠tl2:=ne_of h2.hd h2.ht (by intro z; cases z)
    have br:b≠rl2:=ne_of h2.hb h2.hr (by intro z; cases z)
    have bt:b≠tl2:=ne_of h2.hb h2.ht (by intro z; cases z)
    generalize hO3:HO.dK (putK kvs2 (Sum.inl (t:Int)) (V.int (rs2.length:Nat))) = o3
    have b3:upd H2 nd2 o3 b = some (.ins a.a_Book dx2 (bookFs ml2 rl2 tl2 nd2)):=by rw [upd_ne (Ne.symm nb)]; exact h2.hb
    have r3:upd H2 nd2 o3 rl2 = some (.lst rv2):=by rw [upd_ne (Ne.symm nr)]; exact h2.hr
    refine ⟨_,rfl,b,a.a_Book,dx2,_,_,rfl,b3,T.c_Book,T.na_Book_rooms,rfl,.inl ⟨rfl,_,SqL.of r3⟩,?_⟩
    refine ⟨_,rfl,_,rfl,_,rfl,by show 3≤sizeLine; decide,fun q4 hq4=>?_⟩
    generalize hO4:HO.tup [V.int (p:Nat),V.int (k0:Nat),V.int (k1:Nat)] = o4
    have r4:upd (upd H2 nd2 o3) q4 o4 rl2 = some (.lst rv2):=by rw [upd_ne (ne_of_none r3 hq4)]; exact r3
    refine ⟨rl2,_,_,rfl,rfl,r4,by rw [l2]; exact s2,?_⟩
    have b4:upd (upd H2 nd2 o3) q4 o4 b = some (.ins a.a_Book dx2 (bookFs ml2 rl2 tl2 nd2)):=by rw [upd_ne (ne_of_none b3 hq4)]; exact b3
    have t3:upd H2 nd2 o3 tl2 = some (.lst (ts2.map fun t=>V.int (t:Nat))):=by rw [upd_ne (Ne.symm nt)]; exact h2.ht
    have t4:upd (upd H2 nd2 o3) q4 o4 tl2 = some (.lst (ts2.map fun t=>V.int (t:Nat))):=by rw [upd_ne (ne_of_none t3 hq4)]; exact t3
    have m3:upd H2 nd2 o3 ml2 = some (.lst (os.map V.str)):=by rw [upd_ne (Ne.symm nm)]; exact h2.hm
    have m4:upd (upd H2 nd2 o3) q4 o4 ml2 = some (.lst (os.map V.str)):=by rw [upd_ne (ne_of_none m3 hq4)]; exact m3
    have n3:upd H2 nd2 o3 nd2 = some o3:=upd_same
    have n4:upd (upd H2 nd2 o3) q4 o4 nd2 = some o3:=by rw [upd_ne (ne_of_none n3 hq4)]; exact n3
    have qr:q4≠rl2:=Ne.symm (ne_of_none r3 hq4)
    have qt:q4≠tl2:=Ne.symm (ne_of_none t3 hq4)
    have q4':upd (upd H2 nd2 o3) q4 o4 q4 = some o4:=upd_same
    have tu4:Tups H2 (upd (upd H2 nd2 o3) q4 o4):=fun x xs e=>by
      have e3:upd H2 nd2 o3 x = some (.tup xs):=by rw [upd_ne (ne_of e h2.hd (by intro z; cases z))]; exact e
      rw [upd_ne (ne_of_none e3 hq4)]; exact e3
    have aw4:∀ x o,H2 x = some o→¬ F x→upd (upd H2 nd2 o3) q4 o4 x = some o:=fun x o e nf=>by
      have e3:upd H2 nd2 o3 x = some o:=by rw [upd_ne (fun z=>nf ((h2.ft x).mpr (.inr (.inr (.inr (.inr z))))))]; exact e
      rw [upd_ne (ne_of_none e3 hq4)]; exact e3
    generalize upd (upd H2 nd2 o3) q4 o4 = H4 at b4 t4 m4 n4 r4 q4' tu4 aw4
    generalize hO5:HO.lst (rv2 ++ [V.ref q4]) = o5
    have b5:upd H4 rl2 o5 b = some (.ins a.a_Book dx2 (bookFs ml2 rl2 tl2 nd2)):=by rw [upd_ne br]; exact b4
    have t5:upd H4 rl2 o5 tl2 = some (.lst (ts2.map fun t=>V.int (t:Nat))):=by rw [upd_ne (Ne.symm h2.rt)]; exact t4
    refine ⟨_,rfl,b,a.a_Book,dx2,_,_,rfl,b5,T.c_Book,T.na_Book_tables,rfl,.inl ⟨rfl,_,SqL.of t5⟩,_,rfl,tl2,_,_,rfl,rfl,t5,by rw [List.length_map,h2.tabs.len]; exact s2,?_⟩
    generalize hO6:HO.lst (ts2.map (fun t=>V.int (t:Nat)) ++ [V.int (t:Nat)]) = o6
    have b6:upd (upd H4 rl2 o5) tl2 o6 b = some (.ins a.a_Book dx2 (bookFs ml2 rl2 tl2 nd2)):=by rw [upd_ne bt]; exact b5
    have n6:upd (upd H4 rl2 o5) tl2 o6 nd2 = some (.dK (putK kvs2 (Sum.inl (t:Int)) (V.int (rs2.length:Nat)))):=by rw [upd_ne nt,upd_ne nr,n4,hO3]
    have z:=DGet.k (k:=.inl (t:Int)) n6
    rw [valV_put,if_pos rfl] at z
    refine ⟨_,rfl,b,a.a_Book,dx2,_,_,rfl,b6,T.c_Book,T.na_Book_numbers,rfl,_,rfl,nd2,_,rfl,z,?_⟩
    have tu6:Tups H4 (upd (upd H4 rl2 o5) tl2 o6):=fun x xs e=>by
      rw [upd_ne (ne_of e t4 (by intro z; cases z)),upd_ne (ne_of e r4 (by intro z; cases z))]; exact e
    have parts:=h2.more (H':=upd (upd H4 rl2 o5) tl2 o6) (i:=p) (lo:=k0) (hi:=k1) (t:=t) (q:=q4) (fun x xs e=>tu6 _ _ (tu4 _ _ e)) (b6.trans h2.hb.symm)
      (by rw [upd_ne h2.mt,upd_ne h2.mr,m4,h2.hm]) (by rw [upd_ne h2.rt,upd_same,hO5]) (by rw [upd_same,hO6]) n6
      (by rw [upd_ne qt,upd_ne qr,q4',hO4]) B' hn2 (tab_congr tb fun c hc=>by rw [yn,Bdd.bits_rowN hc])
    refine q rs2.length _ _ (fun x o e nf=>?_) (fun x xs e=>tu6 _ _ (tu4 _ _ (tu2 _ _ (tu1 _ _ e)))) ⟨_,_,_,_,_,_,_,_,parts⟩ (g02.trans (Bdd.Grown.snoc _ _)) (by simp) yn (by rw [List.length_append,List.length_singleton]; omega) (fun j a1 a2=>?_) ?_
    · have e2:=aw2 x o (aw1 x o e nf) nf
      rw [upd_ne (fun z=>nf ((h2.ft x).mpr (.inr (.inr (.inr (.inl z)))))),upd_ne (fun z=>nf ((h2.ft x).mpr (.inr (.inr (.inl z)))))]
      exact aw4 x o e2 nf
    · rw [List.length_append,List.length_singleton] at a2
      by_cases hj:j < rs2.length
      · rw [Bdd.lev_snoc hj]
        have:=lvs j a1 hj
        omega
      · have:j = rs2.length:=by omega
        subst this
        rw [Bdd.lev_of B' (i:=p) (lo:=k0) (hi:=k1) (by simp)]
        exact hup
    · rw [Bdd.hi_snoc]
      have:=Bdd.bH_step (n:=os.length) hup
      omega
theorem ok_Book_room_withH (T:Txt P w K mg a) (G_first_place:FnOk P w K mg base CX0 k a.a_first_place a.d_first_place p_first_place spFirst) (G_held_at:FnOk P w K mg base CX0 k a.a_held_at a.d_held_at p_held_at spHeldAt) :
    ∀ d:Nat,FnOk P w K mg base CX0 (k + d) a.a_Book_room_with a.d_Book_room_with p_Book_room_with (spRoomWithH a.a_Book d)
  | 0=>by
    refine ⟨fun vs H Q E h=>?_,fun A outer s H args us vs Q E _ _ _ _ h=>?_⟩
    · obtain ⟨b,os,rs,F,t,u,f,rfl,_⟩:=h
      rfl
    · obtain ⟨b,os,rs,F,t,u,f,_,_,_,hu,hd,_⟩:=h
      omega
  | d + 1=>ok_Book_room_stepH T (G_first_place.mono (Nat.le_add_right _ _)) (G_held_at.mono (Nat.le_add_right _ _)) (ok_Book_room_withH T G_first_place G_held_at d)
theorem ok_Book_enterH (T:Txt P w K mg a) (G_must_be_sentence:FnOk P w K mg base CX0 k a.a_must_be_sentence a.d_must_be_sentence p_must_be_sentence spMustSen) (G_must_have_marks:FnOk P w K mg base CX0 k a.a_must_have_marks a.d_must_have_marks p_must_have_marks (spMustMarks K))
    (G_table_of:FnOk P w K mg base CX0 k a.a_table_of a.d_table_of p_table_of (spTable K 24)) (G_Book_room_with:FnOk P w K mg base CX0 k a.a_Book_room_with a.d_Book_room_with p_Book_room_with (spRoomWithH a.a_Book 9)) :
    FnOk P w K mg base CX0 (k + 1) a.a_Book_enter a.d_Book_enter p_Book_enter (spEnterH a.a_Book):=by
  refine T.f_Book_enter.F.ok sc_Book_enter (fun vs H Q E h=>?_) (fun cdv A outer s H vs Q E hr h=>?_)
  · obtain ⟨b,p,os,rs,F,sn,rfl,_⟩:=h
    rfl
  obtain ⟨b,p,os,rs,F,sn,rfl,hB,hlen,isp,hin,hc,hd,q⟩:=h
  refine ⟨_,(pss_cons (ps_expr (pe_callD G_must_be_sentence hr T.f_must_be_sentence (pa_cons (pv 1) pa_nil)))
      (pss_cons (ps_expr (pe_callD G_must_have_marks hr T.f_must_have_marks (pa_cons (pe_fld (pv 0) rfl) (pa_cons (pv 1) pa_nil))))
      (pss_one (ps_ret (pe_methD (pv 0) T.c_Book T.f_Book_room_with G_Book_room_with hr (pa_cons (pe_callD G_table_of hr T.f_table_of (pa_cons (pv 1) (pa_cons (pe_fld (pv 0) rfl) pa_nil))) pa_nil)))))),?_⟩
  have L:=bookLike a.a_Book
  have ho:=L.ord hB
  have hlt:sn.inO letts:=(Sn.inO_iff sn).mpr fun x hx=>ho.mem x ((Sn.inO_iff sn).mp hin x hx)
  refine ⟨_,rfl,p,sn,rfl,isp,hlt,hc,hd,fun H1 g1=>?_⟩
  have hB1:=L.same hB g1
  obtain ⟨dx,ml,rl,tl,nd,rv,ts,kvs,h1⟩:=hB1
  refine ⟨_,rfl,b,a.a_Book,dx,_,_,rfl,h1.hb,T.c_Book,T.na_Book_marks,rfl,_,rfl,ml,p,os,sn,rfl,SqL.of h1.hm,isp.mono (Tups.of g1),by omega,hin,fun H2 g2=>?_⟩
  have g12:=g1.trans g2
  have h2:=h1.frame (fun x o e _=>g2 x o e) (Tups.of g2)
  refine ⟨_,rfl,b,dx,_,rfl,h2.hb,rfl,_,rfl,_,rfl,b,a.a_Book,dx,_,_,rfl,h2.hb,T.c_Book,T.na_Book_marks,rfl,p,ml,sn,os,rfl,isp.mono (Tups.of g12),SqL.of h2.hm,hin,ho.le,hd,fun N H3 g3 hN=>?_⟩
  have g13:=g12.trans g3
  have hB3:=L.same hB g13
  refine ⟨b,os,rs,F,N,0,_,rfl,hB3,by show rs.length + 512≤9000000; omega,Nat.zero_le _,by have:=ho.le; omega,hN,fun i hi=>absurd hi (Nat.not_lt_zero _),fun j rs' H' aw tu hB' gr lt y ln _ hh=>?_⟩
  refine q j rs' H' (fun x o e nf=>aw x o (g13 _ _ e) nf) (fun x xs e=>tu _ _ (g13 _ _ e)) hB' gr ⟨lt,fun r=>?_⟩ (Nat.le_trans hh (Nat.add_le_add_left (Bdd.bH_8 ho.le) _))
  rw [y]
  refine Sn.val_congr sn hin fun x hx=>?_
  show (Bdd.bits r os.length).testBit (ix os x) = r (ix os x)
  exact Bdd.bits_bit r (ix_spec hx).2.1
theorem ok_Book_init (T:Txt P w K mg a) (G_must_be_order:FnOk P w K mg base CX0 k a.a_must_be_order a.d_must_be_order p_must_be_order (spMustOrder K)) (G_all_rows:FnOk P w K mg base CX0 k a.a_all_rows a.d_all_rows p_all_rows spAllRows) :
    FnOk P w K mg base CX0 (k + 1) a.a_Book_init a.d_Book_init p_Book_init (spBookInit (BookAt a.a_Book) K a.a_Book):=by
  refine T.f_Book_init.F.ok sc_Book_init (fun vs H Q E h=>?_) (fun cdv A outer s H vs Q E hr h=>?_)
  · obtain ⟨b,dx,l,os,rfl,_⟩:=h
    rfl
  obtain ⟨b,dx,l,os,rfl,hb,bd,hl,ho,q⟩:=h
  refine ⟨_,(pss_cons (ps_expr (pe_callD G_must_be_order hr T.f_must_be_order (pa_cons (pv 1) pa_nil)))
      (pss_cons (ps_setA 2 sc_Book_init.nd (pe_callB call_len_seq rfl T.n_len bt_len (pa_cons (pv 1) pa_nil)))
      (pss_cons (ps_fld (pv 0) (pe_callTy call_list_of rfl T.n_list bt_list (pa_cons (pv 1) pa_nil)) rfl)
      (pss_cons (ps_fld (pv 0) (pe_lst (pa_cons (pe_tup (pa_cons (pv 2) (pa_cons pe_int (pa_cons pe_int pa_nil)))) (pa_cons (pe_tup (pa_cons (pv 2) (pa_cons pe_int (pa_cons pe_int pa_nil)))) pa_nil))) rfl)
      (pss_cons (ps_fld (pv 0) (pe_lst (pa_cons pe_int (pa_cons (pe_callD G_all_rows hr T.f_all_rows (pa_cons (pv 2) pa_nil)) pa_nil))) rfl)
      (pss_one (ps_fld (pv 0) (pe_disp (pps_cons pe_int pe_int (pps_cons (pe_callD G_all_rows hr T.f_all_rows (pa_cons (pv 2) pa_nil)) pe_int pps_nil)) rfl rfl (List.cons_ne_nil _ _) (Nat.le_of_ble_eq_true rfl)) rfl))))))),?_⟩
  have n8:=ho.le
  have hml:(os.map V.str).length = os.length:=List.length_map _
  refine ⟨_,rfl,l,os,rfl,hl,ho,fun H1 g1=>?_⟩
  have hl1:=g1.seq hl
  refine ⟨_,rfl,l,_,rfl,.inl hl1,?_⟩
  rw [hml]
  have b1:=g1 _ _ hb
  refine ⟨_,rfl,l,_,rfl,.inl hl1,fun ml hm1=>?_⟩
  have bm:b≠ml:=ne_of_none b1 hm1
  have b2:upd H1 ml (.lst (os.map V.str)) b = some (.ins a.a_Book dx []):=by rw [upd_ne bm]; exact b1
  refine ⟨_,rfl,b,a.a_Book,dx,_,rfl,b2,T.c_Book,T.na_Book_marks,by decide,?_⟩
  have s2:∀ x o,H x = some o→x≠b→upd (upd H1 ml (.lst (os.map V.str))) b (.ins a.a_Book dx (putF "marks" (.ref ml) [])) x = some o:=fun x o e nb=>by
    rw [upd_ne nb,upd_ne (ne_of_none (g1 _ _ e) hm1)]; exact g1 _ _ e
  have hm2:upd (upd H1 ml (.lst (os.map V.str))) b (.ins a.a_Book dx (putF "marks" (.ref ml) [])) ml = some (.lst (os.map V.str)):=by rw [upd_ne (Ne.symm bm)]; exact upd_same
  have f2:∀ x,upd (upd H1 ml (.lst (os.map V.str))) b (.ins a.a_Book dx (putF "marks" (.ref ml) [])) x = none→H x = none:=fun x e=>by
    have nb:x≠b:=fun z=>by rw [z,upd_same] at e; cases e
    cases hx:H x with
    | none=>rfl
    | some o=>rw [s2 x o hx nb] at e; cases e
  have fm:H ml = none:=g1.free hm1
  have b2':upd (upd H1 ml (.lst (os.map V.str))) b (.ins a.a_Book dx (putF "marks" (.ref ml) [])) b = some (.ins a.a_Book dx (putF "marks" (.ref ml) [])):=upd_same
  generalize upd (upd H1 ml (.lst (os.map V.str))) b (.ins a.a_Book dx (putF "marks" (.ref ml) [])) = H2 at s2 hm2 f2 b2'
  refine ⟨_,rfl,by show 3≤sizeLine; decide,fun p0 hp0=>?_⟩
  refine ⟨_,rfl,by show 3≤sizeLine; decide,fun p1 hp1=>?_⟩
  refine ⟨by show 2≤sizeLine; decide,fun rl hrl=>?_⟩
  have g2:=((Same.new hp0 (.tup [.int (os.length:Nat),.int 0,.int 0])).trans (Same.new hp1 (.tup [.int (os.length:Nat),.int 1,.int 1]))).trans (Same.new hrl (.lst [.ref p0,.ref p1]))
  have hp0':=((Same.new hp1 (.tup [.int (os.length:Nat),.int 1,.int 1])).trans (Same.new hrl (.lst [.ref p0,.ref p1]))) p0 (.tup [.int (os.length:Nat),.int 0,.int 0]) upd_same
  have hp1':=(Same.new hrl (.lst [.ref p0,.ref p1])) p1 (.tup [.int (os.length:Nat),.int 1,.int 1]) upd_same
  have hr3:upd (upd (upd H2 p0 (.tup [.int (os.length:Nat),.int 0,.int 0])) p1 (.tup [.int (os.length:Nat),.int 1,.int 1])) rl (.lst [.ref p0,.ref p1]) rl = some (.lst [.ref p0,.ref p1]):=upd_same
  have frl:H2 rl = none:=((Same.new hp0 _).trans (Same.new hp1 _)).free hrl
  have brl:b≠rl:=ne_of_none b2' frl
  have mr:ml≠rl:=ne_of_none hm2 frl
  have b0:b≠p0:=ne_of_none b2' hp0
  have b1':b≠p1:=ne_of_none b2' ((Same.new hp0 _).free hp1)
  generalize upd (upd (upd H2 p0 (.tup [.int (os.length:Nat),.int 0,.int 0])) p1 (.tup [.int (os.length:Nat),.int 1,.int 1])) rl (.lst [.ref p0,.ref p1]) = H3 at g2 hp0' hp1' hr3
  refine ⟨_,rfl,b,a.a_Book,dx,_,rfl,g2 _ _ b2',T.c_Book,T.na_Book_rooms,by show 1 < 1000; decide,?_⟩
  generalize hfs:putF "rooms" (V.ref rl) (putF "marks" (V.ref ml) []) = fs3
  have u3:∀ x,x≠b→upd H3 b (.ins a.a_Book dx fs3) x = H3 x:=fun x nb=>upd_ne nb
  have b3:upd H3 b (.ins a.a_Book dx fs3) b = some (.ins a.a_Book dx fs3):=upd_same
  generalize upd H3 b (.ins a.a_Book dx fs3) = H4 at u3 b3
  refine ⟨_,rfl,os.length,rfl,n8,by show 2≤sizeLine; decide,fun tl htl=>?_⟩
  have btl:b≠tl:=ne_of_none b3 htl
  have g4:=Same.new htl (.lst [.int 0,.int ((2 ^ 2 ^ os.length - 1:Nat):Int)])
  have ht5:upd H4 tl (.lst [.int 0,.int ((2 ^ 2 ^ os.length - 1:Nat):Int)]) tl = some (.lst [.int 0,.int ((2 ^ 2 ^ os.length - 1:Nat):Int)]):=upd_same
  generalize upd H4 tl (.lst [.int 0,.int ((2 ^ 2 ^ os.length - 1:Nat):Int)]) = H5 at g4 ht5
  refine ⟨_,rfl,b,a.a_Book,dx,_,rfl,g4 _ _ b3,T.c_Book,T.na_Book_tables,by rw [← hfs]; show 2 < 1000; decide,?_⟩
  generalize hfs4:putF "tables" (V.ref tl) fs3 = fs4
  have u5:∀ x,x≠b→upd H5 b (.ins a.a_Book dx fs4) x = H5 x:=fun x nb=>upd_ne nb
  have b5:upd H5 b (.ins a.a_Book dx fs4) b = some (.ins a.a_Book dx fs4):=upd_same
  generalize upd H5 b (.ins a.a_Book dx fs4) = H6 at u5 b5
  refine fun nd hnd=>?_
  have bnd:b≠nd:=ne_of_none b5 hnd
  have g6:=Same.new hnd (.dK [])
  refine ⟨_,rfl,os.length,rfl,n8,upd_same,[(Sum.inl 0,.int 0),(Sum.inl ((2 ^ 2 ^ os.length - 1:Nat):Int),.int 1)],rfl,(by show 2≤15; decide),?_⟩
  rw [upd_upd]
  have g7:=Same.new hnd (.dK (mergeK [] [(Sum.inl 0,.int 0),(Sum.inl ((2 ^ 2 ^ os.length - 1:Nat):Int),.int 1)]))
  have hn7:upd H6 nd (.dK (mergeK [] [(Sum.inl 0,.int 0),(Sum.inl ((2 ^ 2 ^ os.length - 1:Nat):Int),.int 1)])) nd = some (.dK (mergeK [] [(Sum.inl 0,.int 0),(Sum.inl ((2 ^ 2 ^ os.length - 1:Nat):Int),.int 1)])):=upd_same
  generalize upd H6 nd (.dK (mergeK [] [(Sum.inl 0,.int 0),(Sum.inl ((2 ^ 2 ^ os.length - 1:Nat):Int),.int 1)])) = H7 at g7 hn7
  refine ⟨_,rfl,b,a.a_Book,dx,_,rfl,g7 _ _ b5,T.c_Book,T.na_Book_numbers,by rw [← hfs4,← hfs]; show 3 < 1000; decide,?_⟩
  have big:2 ^ 2 ^ os.length - 1≠0:=by
    have:2 ^ 1≤2 ^ 2 ^ os.length:=Nat.pow_le_pow_right (by decide) Nat.one_le_two_pow
    omega
  have to7:∀ x o,H3 x = some o→x≠b→upd H7 b (.ins a.a_Book dx (putF "numbers" (.ref nd) fs4)) x = some o:=fun x o e nb=>by
    rw [upd_ne nb]
    refine g7 _ _ ?_
    rw [u5 x nb]
    refine g4 _ _ ?_
    rw [u3 x nb]
    exact e
  have tl6:H6 tl = some (.lst [.int 0,.int ((2 ^ 2 ^ os.length - 1:Nat):Int)]):=by rw [u5 tl (Ne.symm btl)]; exact ht5
  have efs:putF "numbers" (.ref nd) fs4 = bookFs ml rl tl nd:=by rw [← hfs4,← hfs]; rfl
  have up:∀ x o,H3 x = some o→x≠b→H4 x = some o:=fun x o e nb=>by rw [u3 x nb]; exact e
  have mt:ml≠tl:=ne_of_none (up _ _ (g2 _ _ hm2) (Ne.symm bm)) htl
  have rt:rl≠tl:=ne_of_none (up _ _ hr3 (Ne.symm brl)) htl
  have fr4:∀ x,H4 x = none→H x = none:=fun x e=>f2 x (by
    cases hx:H2 x with
    | none=>rfl
    | some o =>
      by_cases nb:x = b
      · rw [nb,b3] at e; cases e
      · rw [up x o (g2 _ _ hx) nb] at e; cases e)
  have fr6:∀ x,H6 x = none→H x = none:=fun x e=>by
    have nb:x≠b:=fun z=>by rw [z,b5] at e; cases e
    rw [u5 x nb] at e
    exact fr4 x (g4.free e)
  have two:∀ {j:Nat},j < 2→j = 0∨j = 1:=fun h=>by omega
  have bk0:Bdd.Bk os.length [none,none]:=⟨rfl,rfl,fun k h1 h2=>by simp at h2; omega,fun i j x e _=>by
    have:=(List.getElem?_eq_some_iff.mp e).1
    rcases two (by simpa using this) with z | z <;> subst z <;> cases e⟩
  refine q _ (fun x=>x = b∨x = ml∨x = rl∨x = tl∨x = nd) (fun x o e nb=>to7 x o (g2 _ _ (s2 x o e nb)) nb) ⟨dx,ml,rl,tl,nd,[.ref p0,.ref p1],[0,2 ^ 2 ^ os.length - 1],mergeK [] [(Sum.inl 0,.int 0),(Sum.inl ((2 ^ 2 ^ os.length - 1:Nat):Int),.int 1)],?_⟩ (fun x hx=>?_)
  · refine { hb:=by rw [upd_same,efs],hm:=to7 _ _ (g2 _ _ hm2) (Ne.symm bm),hr:=to7 _ _ hr3 (Ne.symm brl),ht:=by rw [upd_ne (Ne.symm btl)]; exact g7 _ _ tl6,hd:=by rw [upd_ne (Ne.symm bnd)]; exact hn7,mr:=mr,mt:=mt,rt:=rt,ord:=ho,bk:=bk0,len:=rfl,rm:=?_,tabs:=?_,nums:=?_,ft:=fun x=>Iff.rfl }
    · intro j x e
      have:=(List.getElem?_eq_some_iff.mp e).1
      rcases two (by simpa using this) with z | z <;> subst z <;> cases e
      · exact ⟨p0,rfl,to7 _ _ hp0' (Ne.symm b0)⟩
      · exact ⟨p1,rfl,to7 _ _ hp1' (Ne.symm b1')⟩
    · refine ⟨rfl,fun j t e=>?_⟩
      have:=(List.getElem?_eq_some_iff.mp e).1
      rcases two (by simpa using this) with z | z <;> subst z <;> cases e
      · exact tab_congr (tab_zero _) fun b _=>rfl
      · exact tab_congr (tab_all _) fun b _=>(Bdd.yes_yes bk0 _).symm
    · have z0:Nums [] []:=⟨fun j t e=>by simp at e,fun t _=>rfl,Nat.le_refl _⟩
      have z1:=z0.snoc (t:=0) (by simp)
      exact z1.snoc (t:=2 ^ 2 ^ os.length - 1) (fun hm=>by simp at hm; omega)
  · rcases hx with z | z | z | z | z <;> subst z
    · exact .inl rfl
    · exact .inr (.inr fm)
    · exact .inr (.inr (f2 _ frl))
    · exact .inr (.inr (fr4 _ htl))
    · exact .inr (.inr (fr6 _ hnd))
end
end K60
namespace K60
open PySem L2 Sen
section
variable {P:Program} {w:World} {K:PySem.W.Frag} {mg:Str→Option Value} {base:Heap} {a:Ad} {k:Nat}
theorem ok_cell_f (T:Txt P w K mg a):FnOk P w K mg base CX0 (k + 1) a.a_x_law_cell_at a.d_x_law_cell_at p_x_law_cell_at (spCellF K):=by
  refine T.f_x_law_cell_at.F.ok sc_x_law_cell_at (fun vs H Q E h=>?_) (fun cdv A outer s H vs Q E hr h=>?_)
  · obtain ⟨l,ns,i,rfl,_⟩:=h
    rfl
  obtain ⟨l,ns,i,rfl,hS,q⟩:=h
  refine ⟨_,(pss_cons (ps_if (pt_cmpR op_lt (pv 1) (pe_callB call_len_seq rfl T.n_len bt_len (pa_cons (pv 0) pa_nil)) (nomark _)) (pss_one (ps_ret (pe_ix ix_list (pv 0) (pv 1) (fun _ _=>rfl)))) pss_nil)
      (pss_one (ps_ret pe_int))),?_⟩
  refine ⟨_,rfl,_,rfl,l,_,rfl,.inl hS,_,_,rfl,rfl,_,rfl,?_⟩
  refine ite2 (fun c=>?_) (fun c=>?_)
  · have c':(i:Int) < (((ns.map V.int).length:Nat):Int):=of_decide_eq_true c
    rw [List.length_map] at c'
    have hi:i < ns.length:=by omega
    have ec:cellF ns i = ns[i]:=by unfold cellF; rw [List.getElem?_eq_getElem hi]; rfl
    rw [ec] at q
    exact ⟨_,rfl,_,rfl,l,_,i,_,rfl,rfl,hS,atI_nat (by rw [List.getElem?_map,List.getElem?_eq_getElem hi]; rfl),q⟩
  · have hi:ns.length≤i:=by
      refine Nat.le_of_not_lt fun hlt=>c (decide_eq_true ?_)
      rw [List.length_map]; omega
    have ec:cellF ns i = 0:=by unfold cellF; rw [List.getElem?_eq_none hi]; rfl
    rw [ec] at q
    exact q
end
end K60
namespace K60
open PySem L2 Sen
section
variable {P:Program} {w:World} {K:PySem.W.Frag} {mg:Str→Option Value} {base:Heap} {a:Ad} {k:Nat}
theorem ok_Book_must_be_room (T:Txt P w K mg a):FnOk P w K mg base CX0 (k + 1) a.a_Book_must_be_room a.d_Book_must_be_room p_Book_must_be_room (spMustRoom a.a_Book):=by
  refine T.f_Book_must_be_room.F.ok sc_Book_must_be_room (fun vs H Q E h=>?_) (fun cdv A outer s H vs Q E hr h=>?_)
  · obtain ⟨b,os,rs,F,j,rfl,_⟩:=h
    rfl
  obtain ⟨b,os,rs,F,j,rfl,⟨dx,ml,rl,tl,nd,rv,ts,kvs,h⟩,hk,q⟩:=h
  refine ⟨_,(pss_one (ps_if (PW.pt (pw_or (pt_cmpR op_lt (pv 1) pe_int (nomark _)) (pw_or1 (pt_cmpR op_ge (pv 1) (pe_callB call_len_seq rfl T.n_len bt_len (pa_cons (pe_fld (pv 0) rfl) pa_nil)) (nomark _))))) (pss_one ps_never) pss_nil)),?_⟩
  have hl:=h.len
  refine ⟨_,rfl,_,_,rfl,rfl,_,rfl,ite2 (fun c=>absurd (of_decide_eq_true c) (by omega)) (fun _=>?_)⟩
  refine ⟨_,rfl,_,rfl,b,a.a_Book,dx,_,_,rfl,h.hb,T.c_Book,T.na_Book_rooms,rfl,rl,_,rfl,.inl (SqL.of h.hr),_,_,rfl,rfl,_,rfl,ite2 (fun c=>absurd (of_decide_eq_true c) (by omega)) (fun _=>?_)⟩
  exact q
theorem ok_Book_place_of (T:Txt P w K mg a):FnOk P w K mg base CX0 (k + 1) a.a_Book_place_of a.d_Book_place_of p_Book_place_of (spPlaceOf a.a_Book):=by
  refine T.f_Book_place_of.F.ok sc_Book_place_of (fun vs H Q E h=>?_) (fun cdv A outer s H vs Q E hr h=>?_)
  · obtain ⟨b,os,rs,F,j,rfl,_⟩:=h
    rfl
  obtain ⟨b,os,rs,F,j,rfl,⟨dx,ml,rl,tl,nd,rv,ts,kvs,h⟩,hk,q⟩:=h
  refine ⟨_,(pss_one (ps_ret (pe_ix ix_tup (pe_ix ix_list (pe_fld (pv 0) rfl) (pv 1) (fun _ _=>rfl)) pe_int (fun _ _=>rfl)))),?_⟩
  have ex:=List.getElem?_eq_getElem hk
  obtain ⟨p,e1,e2⟩:=h.rm j _ ex
  refine ⟨_,rfl,b,a.a_Book,dx,_,_,rfl,h.hb,T.c_Book,T.na_Book_rooms,rfl,_,rfl,rl,_,_,_,rfl,rfl,SqL.of h.hr,atI_nat e1,?_⟩
  refine ⟨p,_,0,.int (Bdd.lev os.length rs j:Nat),rfl,rfl,SqT.of e2,?_,q⟩
  unfold Bdd.lev
  rw [ex]
  cases rs[j] with
  | none=>rfl
  | some t=>rfl
theorem ok_Book_going (T:Txt P w K mg a):FnOk P w K mg base CX0 (k + 1) a.a_Book_going a.d_Book_going p_Book_going (spGoing a.a_Book):=by
  refine T.f_Book_going.F.ok sc_Book_going (fun vs H Q E h=>?_) (fun cdv A outer s H vs Q E hr h=>?_)
  · obtain ⟨b,os,rs,F,j,x,v,rfl,_⟩:=h
    rfl
  obtain ⟨b,os,rs,F,j,x,v,rfl,⟨dx,ml,rl,tl,nd,rv,ts,kvs,h⟩,ex,q⟩:=h
  refine ⟨_,(pss_one (ps_ret (pe_ix ix_tup (pe_ix ix_list (pe_fld (pv 0) rfl) (pv 1) (fun _ _=>rfl)) (pe_op op_add pe_int (pv 2)) (fun _ _=>rfl)))),?_⟩
  obtain ⟨p,e1,e2⟩:=h.rm j _ ex
  refine ⟨_,rfl,b,a.a_Book,dx,_,_,rfl,h.hb,T.c_Book,T.na_Book_rooms,rfl,_,rfl,rl,_,_,_,rfl,rfl,SqL.of h.hr,atI_nat e1,?_⟩
  refine ⟨_,rfl,_,_,rfl,rfl,p,_,_,.int (roomGo j x v:Nat),rfl,rfl,SqT.of e2,?_,q⟩
  cases v <;> cases x <;> rfl
theorem ok_Book_below5 (T:Txt P w K mg a) (G_Book_must_be_room:FnOk P w K mg base CX0 k a.a_Book_must_be_room a.d_Book_must_be_room p_Book_must_be_room (spMustRoom a.a_Book)) (G_Book_going:FnOk P w K mg base CX0 k a.a_Book_going a.d_Book_going p_Book_going (spGoing a.a_Book)) :
    FnOk P w K mg base CX0 (k + 1) a.a_Book_below a.d_Book_below p_Book_below (spBookBelow (BookAt a.a_Book)):=by
  refine T.f_Book_below.F.ok sc_Book_below (fun vs H Q E h=>?_) (fun cdv A outer s H vs Q E hr h=>?_)
  · obtain ⟨b,os,rs,F,k0,rfl,_⟩:=h
    rfl
  obtain ⟨b,os,rs,F,k0,rfl,hB,h5,hk,q⟩:=h
  refine ⟨_,(pss_cons (ps_expr (pe_methD (pv 0) T.c_Book T.f_Book_must_be_room G_Book_must_be_room hr (pa_cons (pv 1) pa_nil)))
      (pss_cons (ps_setA 2 sc_Book_below.nd pe_dnewK)
      (pss_cons (ps_setA 3 sc_Book_below.nd (pe_lst (pa_cons (pv 1) pa_nil)))
      (pss_cons (ps_while PassesOwn.never (pt_cmpR op_gt (pe_callB call_len_seq rfl T.n_len bt_len (pa_cons (pv 3) pa_nil)) pe_int (nomark _)) (pss_cons (ps_setA 4 sc_Book_below.nd (pe_bm0 PySem.F.plainAttrs_list PySem.F.slot_list_pop PySem.F.type_list_pop mt_pop (pv 3)))
      (pss_one (ps_if (pt_cmp (pc_dnotin (hu_of hr) (pv 4) (pv 2))) (pss_cons (ps_dput (hu_of hr) (pv 2) (pv 4) pe_bl rfl)
      (pss_one (ps_expr (pe_bm PySem.F.plainAttrs_list PySem.F.slot_list_extend PySem.F.type_list_extend mt_extend (pv 3) (pa_cons (pe_lst (pa_cons (pe_methD (pv 0) T.c_Book T.f_Book_going G_Book_going hr (pa_cons (pv 4) (pa_cons pe_int pa_nil))) (pa_cons (pe_methD (pv 0) T.c_Book T.f_Book_going G_Book_going hr (pa_cons (pv 4) (pa_cons pe_int pa_nil))) pa_nil))) pa_nil))))) pss_nil))))
      (pss_one (ps_ret (pe_callB (call_sorted_dict rfl) rfl T.n_sorted bt_sorted (pa_cons (pv 2) pa_nil)))))))),?_⟩
  have L:=bookLike a.a_Book
  have BK:=L.bk hB
  obtain ⟨dx,ml,rl,tl,nd,rv,tbs,kvs0,h⟩:=hB
  have hB:BookAt a.a_Book H b os rs F:=⟨dx,ml,rl,tl,nd,rv,tbs,kvs0,h⟩
  refine ⟨_,rfl,b,dx,_,rfl,h.hb,rfl,_,rfl,b,os,rs,F,k0,rfl,hB,hk,?_⟩
  refine fun f hf=>?_
  refine ⟨_,rfl,by show 1≤sizeLine; decide,fun t ht=>?_⟩
  have nft:f≠t:=ne_of_none upd_same ht
  have g0:=(Same.new hf (.dK [])).trans (Same.new ht (.lst [.int k0]))
  have p33:2 ^ os.length + 1≤33:=Nat.succ_le_succ (Nat.pow_le_pow_right (n:=2) (by decide) h5)
  refine ⟨fun m σ H'=>∃ (ks ts:List Nat) (kvs:List (Key × V)) (f4:Option V),m = 3 * (rs.length - ks.length) + ts.length∧Bdd.Dfs rs k0 ks ts∧Same H H'∧H' f = some (.dK kvs)∧kvs.map (·.1) = ks.map (fun (n:Nat)=>(Sum.inl (n:Int):Key))∧H' t = some (.lst (ts.map fun (n:Nat)=>V.int n)) ∧
      σ = [some (.ref b),some (.int k0),some (.ref f),some (.ref t),f4],
    ⟨_,[],[k0],[],none,rfl,Bdd.Dfs.start rs k0,g0,by rw [upd_ne nft]; exact upd_same,rfl,upd_same,rfl⟩,?_⟩
  rintro m σ H' ⟨ks,ts,kvs,f4,rfl,D,g,hf',hkv,ht',rfl⟩
  have lks:ks.length≤33:=Nat.le_trans (Bdd.below_len BK hk D.nd D.r1) p33
  have lkv:kvs.length = ks.length:=by have:=congrArg List.length hkv; rw [List.length_map,List.length_map] at this; exact this
  refine ⟨_,rfl,t,_,rfl,.inl (SqL.of ht'),_,_,rfl,rfl,_,rfl,ite2 (fun c=>?_) (fun c=>?_)⟩
  · have c':0 < ts.length:=by have:=of_decide_eq_true c; rw [List.length_map] at this; omega
    obtain ⟨ts',x,rfl⟩:∃ ts' x,ts = ts' ++ [x]:=⟨ts.dropLast,ts.getLast (List.ne_nil_of_length_pos c'),(List.dropLast_concat_getLast _).symm⟩
    refine ⟨_,fun σ' H2 h=>h,?_⟩
    have e1:((ts' ++ [x]).map fun (n:Nat)=>V.int n)[((ts' ++ [x]).map fun (n:Nat)=>V.int n).length - 1]? = some (.int (x:Nat)):=by
      simp
    have e2:((ts' ++ [x]).map fun (n:Nat)=>V.int n).dropLast = ts'.map fun (n:Nat)=>V.int n:=by simp
    refine ⟨_,rfl,.inl ⟨rfl,_,SqL.of ht'⟩,t,_,_,rfl,rfl,ht',e1,?_⟩
    rw [e2]
    have g1:Same H (upd H' t (.lst (ts'.map fun (n:Nat)=>V.int n))):=g.over ((Same.new hf _).free ht) _
    have hf1:(upd H' t (.lst (ts'.map fun (n:Nat)=>V.int n))) f = some (.dK kvs):=by rw [upd_ne nft]; exact hf'
    refine ⟨_,rfl,_,rfl,f,_,rfl,DGet.k (k:=.inl (x:Int)) hf1,?_⟩
    have hkm:(Sum.inl (x:Int):Key)∈kvs.map (·.1)↔x∈ks:=by
      rw [hkv,List.mem_map]
      exact ⟨fun ⟨j,hj,e⟩=>(Int.ofNat.inj (Sum.inl.inj e):j = x) ▸ hj,fun h=>⟨x,h,rfl⟩⟩
    have e3:(valV kvs (Sum.inl (x:Int):Key)).isSome = decide (x∈ks):=by rw [valV_key]; exact decide_eq_decide.mpr hkm
    rw [e3]
    refine ⟨_,rfl,ite2 (fun z=>?_) (fun z=>?_)⟩
    · have hx:x ∉ ks:=fun h=>by rw [decide_eq_true h] at z; cases z
      have bound:=D.room BK hk hx
      refine ⟨_,rfl,_,rfl,f,_,rfl,DPut.k (k:=.inl (x:Int)) hf1 (by rw [lkv]; exact small1000 (by omega)),?_⟩
      have hnone:valV kvs (Sum.inl (x:Int):Key) = none:=by rw [decide_eq_false hx] at e3; exact Option.isSome_eq_false_iff.mp e3 |> Option.isNone_iff_eq_none.mp
      rw [putK_new _ hnone]
      have g2:Same H (upd (upd H' t (.lst (ts'.map fun (n:Nat)=>V.int n))) f (.dK (kvs ++ [(Sum.inl (x:Int),V.bl true)]))):=g1.over hf _
      have hkv2:(kvs ++ [((Sum.inl (x:Int):Key),V.bl true)]).map (·.1) = (ks ++ [x]).map (fun (n:Nat)=>(Sum.inl (n:Int):Key)):=by rw [List.map_append,List.map_append,hkv]; rfl
      have ht2:(upd (upd H' t (.lst (ts'.map fun (n:Nat)=>V.int n))) f (.dK (kvs ++ [(Sum.inl (x:Int),V.bl true)]))) t = some (.lst (ts'.map fun (n:Nat)=>V.int n)):=by rw [upd_ne (Ne.symm nft)]; exact upd_same
      have hf2:(upd (upd H' t (.lst (ts'.map fun (n:Nat)=>V.int n))) f (.dK (kvs ++ [(Sum.inl (x:Int),V.bl true)]))) f = some (.dK (kvs ++ [(Sum.inl (x:Int),V.bl true)])):=upd_same
      generalize upd (upd H' t (.lst (ts'.map fun (n:Nat)=>V.int n))) f (.dK (kvs ++ [(Sum.inl (x:Int),V.bl true)])) = H2 at g2 ht2 hf2
      have hxl:x < rs.length:=(D.r2 x (List.mem_append_right _ List.mem_cons_self)).lt BK hk
      have hB2:=L.same hB g2
      obtain ⟨rm,ex⟩:∃ rm,rs[x]? = some rm:=⟨_,List.getElem?_eq_getElem hxl⟩
      have b2:=g2 _ _ h.hb
      refine ⟨_,rfl,.inl ⟨rfl,_,SqL.of ht2⟩,?_⟩
      refine ⟨_,rfl,b,dx,_,rfl,b2,rfl,_,rfl,b,os,rs,F,x,rm,false,rfl,hB2,ex,?_⟩
      refine ⟨_,rfl,b,dx,_,rfl,b2,rfl,_,rfl,b,os,rs,F,x,rm,true,rfl,hB2,ex,?_⟩
      refine ⟨by show 2≤sizeLine; decide,fun l6 hl6=>?_⟩
      have g6:=Same.new hl6 (.lst [.int (roomGo x rm false:Nat),.int (roomGo x rm true:Nat)])
      have D':Bdd.Dfs rs k0 (ks ++ [x]) (ts' ++ [roomGo x rm false,roomGo x rm true]):=by
        cases rm with
        | none =>
          refine D.add [x,x] hx (fun y hy=>?_) (fun i lo hi e=>by rw [ex] at e; cases e) (Nat.le_refl _)
          have:y = x:=by simpa using hy
          rw [this]
          exact D.r2 x (List.mem_append_right _ List.mem_cons_self)
        | some tr =>
          obtain ⟨i,lo,hi⟩:=tr
          exact D.node hx ex
      refine ⟨t,l6,_,_,rfl,rfl,g6 _ _ ht2,upd_same,?_,?_⟩
      · have:=D.len
        rw [List.length_append,List.length_singleton] at this
        rw [List.length_map]
        exact Nat.le_of_lt (small1000 (show ts'.length + 2≤1000 by omega))
      · refine ⟨_,?_,ks ++ [x],ts' ++ [roomGo x rm false,roomGo x rm true],_,_,rfl,D',(g2.trans g6).over ((Same.new hf _).free ht) _,?_,hkv2,?_,rfl⟩
        · rw [List.length_append,List.length_append,List.length_append,List.length_singleton]
          show 3 * (rs.length - (ks.length + 1)) + (ts'.length + 2) < _
          omega
        · rw [upd_ne nft]; exact g6 _ _ hf2
        · rw [upd_same,List.map_append]; rfl
    · have hx:x∈ks:=Decidable.byContradiction fun h=>z (by rw [decide_eq_false h]; rfl)
      refine ⟨_,?_,ks,ts',kvs,_,rfl,D.skip hx,g1,hf1,hkv,upd_same,rfl⟩
      rw [List.length_append,List.length_singleton]
      omega
  · have ets:ts = []:=by
      have:¬ 0 < ts.length:=fun z=>c (decide_eq_true (by rw [List.length_map]; omega))
      exact List.length_eq_zero_iff.mp (by omega)
    subst ets
    refine ⟨_,rfl,f,kvs,ks.map fun (n:Nat)=>(n:Int),rfl,hf',by rw [hkv,List.map_map]; rfl,by rw [List.length_map]; omega,fun l ms hl pm up=>?_⟩
    exact q l _ ms (g.trans (Same.new hl _)) (g.free hl) upd_same (Bdd.IsBelow.of D.nd D.done pm up)
theorem ok_size_of5x (T:Txt P w K mg a) (G_Book_below:FnOk P w K mg base CX0 k a.a_Book_below a.d_Book_below p_Book_below (spBookBelow (BookAt a.a_Book))):FnOk P w K mg base CX0 (k + 1) a.a_size_of a.d_size_of p_size_of (spSizeOf5 a.a_Book):=by
  refine T.f_size_of.F.ok sc_size_of (fun vs H Q E h=>?_) (fun cdv A outer s H vs Q E hr h=>?_)
  · obtain ⟨b,os,rs,F,k0,rfl,_⟩:=h
    rfl
  obtain ⟨b,os,rs,F,k0,rfl,hB,hk,h5,q⟩:=h
  refine ⟨_,(pss_one (ps_ret (pe_callB call_len_seq rfl T.n_len bt_len (pa_cons (pe_methD (pv 0) T.c_Book T.f_Book_below G_Book_below hr (pa_cons (pv 1) pa_nil)) pa_nil)))),?_⟩
  have L:=bookLike a.a_Book
  obtain ⟨dx,fs,hins,hm⟩:=L.ins hB
  refine ⟨_,rfl,b,dx,fs,rfl,hins,hm _ (by decide +kernel),_,rfl,b,os,rs,F,k0,rfl,hB,h5,hk,fun l H' ms g hl0 hl ib=>?_⟩
  refine ⟨l,_,rfl,.inl (SqL.of hl),?_⟩
  rw [List.length_map]
  exact q H' ms g ib
theorem ok_Book_table_at (T:Txt P w K mg a):FnOk P w K mg base CX0 (k + 1) a.a_Book_table_at a.d_Book_table_at p_Book_table_at (spTableAt a.a_Book):=by
  refine T.f_Book_table_at.F.ok sc_Book_table_at (fun vs H Q E h=>?_) (fun cdv A outer s H vs Q E hr h=>?_)
  · obtain ⟨b,os,rs,F,j,rfl,_⟩:=h
    rfl
  obtain ⟨b,os,rs,F,j,rfl,⟨dx,ml,rl,tl,nd,rv,ts,kvs,h⟩,hk,q⟩:=h
  refine ⟨_,(pss_one (ps_ret (pe_ix ix_list (pe_fld (pv 0) rfl) (pv 1) (fun _ _=>rfl)))),?_⟩
  have ht:j < ts.length:=by rw [h.tabs.len]; exact hk
  have ex:=List.getElem?_eq_getElem ht
  refine ⟨_,rfl,b,a.a_Book,dx,_,_,rfl,h.hb,T.c_Book,T.na_Book_tables,rfl,_,rfl,tl,_,_,.int (ts[j]:Nat),rfl,rfl,SqL.of h.ht,atI_nat (by rw [List.getElem?_map,ex]; rfl),?_⟩
  exact q _ (h.tabs.tab j _ ex)
theorem ok_Book_order (T:Txt P w K mg a):FnOk P w K mg base CX0 (k + 1) a.a_Book_order a.d_Book_order p_Book_order (spBookOrder (BookAt a.a_Book)):=by
  refine T.f_Book_order.F.ok sc_Book_order (fun vs H Q E h=>?_) (fun cdv A outer s H vs Q E hr h=>?_)
  · obtain ⟨b,os,rs,F,rfl,_⟩:=h
    rfl
  obtain ⟨b,os,rs,F,rfl,⟨dx,ml,rl,tl,nd,rv,ts,kvs,h⟩,q⟩:=h
  refine ⟨_,(pss_one (ps_ret (pe_callTy call_list_of rfl T.n_list bt_list (pa_cons (pe_fld (pv 0) rfl) pa_nil)))),?_⟩
  exact ⟨_,rfl,b,a.a_Book,dx,_,_,rfl,h.hb,T.c_Book,T.na_Book_marks,rfl,ml,_,rfl,.inl (SqL.of h.hm),fun l hl=>q l _ (Same.new hl _) hl upd_same⟩
theorem ok_Book_size (T:Txt P w K mg a):FnOk P w K mg base CX0 (k + 1) a.a_Book_size a.d_Book_size p_Book_size (spBookSize (BookAt a.a_Book)):=by
  refine T.f_Book_size.F.ok sc_Book_size (fun vs H Q E h=>?_) (fun cdv A outer s H vs Q E hr h=>?_)
  · obtain ⟨b,os,rs,F,rfl,_⟩:=h
    rfl
  obtain ⟨b,os,rs,F,rfl,⟨dx,ml,rl,tl,nd,rv,ts,kvs,h⟩,q⟩:=h
  refine ⟨_,(pss_one (ps_ret (pe_callB call_len_seq rfl T.n_len bt_len (pa_cons (pe_fld (pv 0) rfl) pa_nil)))),?_⟩
  refine ⟨_,rfl,b,a.a_Book,dx,_,_,rfl,h.hb,T.c_Book,T.na_Book_rooms,rfl,rl,_,rfl,.inl (SqL.of h.hr),?_⟩
  rw [h.len]
  exact q H (Same.refl _)
theorem ok_Book_room (T:Txt P w K mg a) (G_Book_must_be_room:FnOk P w K mg base CX0 k a.a_Book_must_be_room a.d_Book_must_be_room p_Book_must_be_room (spMustRoom a.a_Book)) (G_Book_place_of:FnOk P w K mg base CX0 k a.a_Book_place_of a.d_Book_place_of p_Book_place_of (spPlaceOf a.a_Book)) (G_Book_going:FnOk P w K mg base CX0 k a.a_Book_going a.d_Book_going p_Book_going (spGoing a.a_Book)) :
    FnOk P w K mg base CX0 (k + 1) a.a_Book_room a.d_Book_room p_Book_room (spBookRoom (BookAt a.a_Book)):=by
  refine T.f_Book_room.F.ok sc_Book_room (fun vs H Q E h=>?_) (fun cdv A outer s H vs Q E hr h=>?_)
  · obtain ⟨b,os,rs,F,j,x,rfl,_⟩:=h
    rfl
  obtain ⟨b,os,rs,F,j,x,rfl,hB,ex,q⟩:=h
  refine ⟨_,(pss_cons (ps_expr (pe_methD (pv 0) T.c_Book T.f_Book_must_be_room G_Book_must_be_room hr (pa_cons (pv 1) pa_nil)))
      (pss_cons (ps_if (pt_cmpR op_in_seq (pv 1) (pe_tup (pa_cons pe_int (pa_cons pe_int pa_nil))) (by with_unfolding_all rfl)) (pss_one (ps_ret pe_non)) pss_nil)
      (pss_one (ps_ret (pe_tup (pa_cons (pe_ix ix_list (pe_fld (pv 0) rfl) (pe_methD (pv 0) T.c_Book T.f_Book_place_of G_Book_place_of hr (pa_cons (pv 1) pa_nil)) (fun _ _=>rfl)) (pa_cons (pe_methD (pv 0) T.c_Book T.f_Book_going G_Book_going hr (pa_cons (pv 1) (pa_cons pe_int pa_nil))) (pa_cons (pe_methD (pv 0) T.c_Book T.f_Book_going G_Book_going hr (pa_cons (pv 1) (pa_cons pe_int pa_nil))) pa_nil)))))))),?_⟩
  have hj:=(List.getElem?_eq_some_iff.mp ex).1
  have BK:=(bookLike a.a_Book).bk hB
  obtain ⟨dx,ml,rl,tl,nd,rv,ts,kvs,h⟩:=hB
  refine ⟨_,rfl,b,dx,_,rfl,h.hb,rfl,_,rfl,b,os,rs,F,j,rfl,⟨dx,ml,rl,tl,nd,rv,ts,kvs,h⟩,hj,?_⟩
  refine ⟨_,rfl,by show 2≤sizeLine; decide,fun p hp=>⟨p,_,rfl,.inr (SqT.of upd_same),rfl,rfl,_,rfl,?_⟩⟩
  have g:=Same.new hp (.tup [.int 0,.int 1])
  have h':=h.frame (fun x o e _=>g x o e) (Tups.of g)
  have hB':BookAt a.a_Book (upd H p (.tup [.int 0,.int 1])) b os rs F:=⟨dx,ml,rl,tl,nd,rv,ts,kvs,h'⟩
  have e0:(if false = true then !inV (V.int (j:Nat)) [.int 0,.int 1] else inV (V.int (j:Nat)) [.int 0,.int 1]) = decide (j < 2):=by
    rw [if_neg Bool.false_ne_true]
    show (((0:Int) == (j:Nat)) || (((1:Int) == (j:Nat)) || false)) = decide (j < 2)
    rw [Bool.eq_iff_iff]
    simp only [Bool.or_eq_true,beq_iff_eq,Bool.or_false,decide_eq_true_eq]
    omega
  rw [e0]
  by_cases j2:j < 2
  · rw [decide_eq_true j2]
    refine iteT (q _ _ g ?_)
    have:x = none:=by
      have:j = 0∨j = 1:=by omega
      rcases this with z | z <;> subst z
      · rw [BK.h0] at ex; cases ex; rfl
      · rw [BK.h1] at ex; cases ex; rfl
    subst this
    rfl
  · rw [decide_eq_false j2]
    obtain ⟨i,lo,hi,e,hin,_⟩:=BK.rm j (by omega) hj
    rw [ex] at e
    cases e
    refine iteF ?_
    have el:=Bdd.lev_of BK ex
    refine ⟨_,rfl,b,a.a_Book,dx,_,_,rfl,h'.hb,T.c_Book,T.na_Book_marks,rfl,_,rfl,b,dx,_,rfl,h'.hb,rfl,_,rfl,b,os,rs,F,j,rfl,hB',hj,?_⟩
    have ei:=List.getElem?_eq_getElem hin
    refine ⟨ml,_,_,.str os[i],rfl,rfl,SqL.of h'.hm,by rw [el]; exact atI_nat (by rw [List.getElem?_map,ei]; rfl),?_⟩
    refine ⟨_,rfl,b,dx,_,rfl,h'.hb,rfl,_,rfl,b,os,rs,F,j,_,false,rfl,hB',ex,?_⟩
    refine ⟨_,rfl,b,dx,_,rfl,h'.hb,rfl,_,rfl,b,os,rs,F,j,_,true,rfl,hB',ex,?_⟩
    refine ⟨by show 3≤sizeLine; decide,fun p2 hp2=>?_⟩
    exact q _ _ (g.trans (Same.new hp2 _)) ⟨p2,os[i],rfl,ei,upd_same⟩
theorem ok_without (T:Txt P w K mg a):FnOk P w K mg base CX0 (k + 1) a.a_without a.d_without p_without spWithout:=by
  refine T.f_without.F.ok sc_without (fun vs H Q E h=>?_) (fun cdv A outer s H vs Q E hr h=>?_)
  · obtain ⟨N,M,n,f,g,rfl,_⟩:=h
    rfl
  obtain ⟨N,M,n,f,g,rfl,tb,tg,q⟩:=h
  refine ⟨_,(pss_one (ps_ret (pe_op op_xorN (pv 0) (pe_op op_andN (pv 0) (pv 1))))),?_⟩
  refine ⟨_,rfl,_,rfl,_,rfl,N,M,rfl,rfl,N,N &&& M,rfl,rfl,q _ (tab_congr (Sen.tab_xor tb (Sen.tab_and tb tg)) fun b _=>?_)⟩
  show (f b != (f b && g b)) = (f b && !g b)
  cases f b <;> cases g b <;> rfl
theorem ok_chosen (T:Txt P w K mg a) (G_without:FnOk P w K mg base CX0 k a.a_without a.d_without p_without spWithout):FnOk P w K mg base CX0 (k + 1) a.a_chosen a.d_chosen p_chosen spChosen:=by
  refine T.f_chosen.F.ok sc_chosen (fun vs H Q E h=>?_) (fun cdv A outer s H vs Q E hr h=>?_)
  · obtain ⟨W,L,M,n,f,g,h,rfl,_⟩:=h
    rfl
  obtain ⟨W,L,M,n,f,g,h,rfl,tf,tg,th,q⟩:=h
  refine ⟨_,(pss_one (ps_ret (pe_op op_orN (pe_op op_andN (pv 2) (pv 0)) (pe_callD G_without hr T.f_without (pa_cons (pv 1) (pa_cons (pv 0) pa_nil)))))),?_⟩
  refine ⟨_,rfl,_,rfl,M,W,rfl,rfl,_,rfl,_,rfl,L,W,n,g,f,rfl,tg,tf,fun R tr=>?_⟩
  refine ⟨M &&& W,R,rfl,rfl,q _ (tab_congr (Sen.tab_or (Sen.tab_and th tf) tr) fun b _=>?_)⟩
  show ((h b && f b) || (g b && !f b)) = if f b then h b else g b
  cases f b <;> simp
end
end K60
namespace K60
open PySem L2 Sen
section
variable {P:Program} {w:World} {K:PySem.W.Frag} {mg:Str→Option Value} {base:Heap} {a:Ad} {k:Nat}
theorem ok_room_inH (T:Txt P w K mg a)
    (G_Book_room:FnOk P w K mg base CX0 k a.a_Book_room a.d_Book_room p_Book_room (spBookRoom (BookAt a.a_Book)))
    (G_Book_order:FnOk P w K mg base CX0 k a.a_Book_order a.d_Book_order p_Book_order (spBookOrder (BookAt a.a_Book)))
    (G_rows_with:FnOk P w K mg base CX0 k a.a_rows_with a.d_rows_with p_rows_with spRowsWith)
    (G_chosen:FnOk P w K mg base CX0 k a.a_chosen a.d_chosen p_chosen spChosen)
    (G_Book_table_at:FnOk P w K mg base CX0 k a.a_Book_table_at a.d_Book_table_at p_Book_table_at (spTableAt a.a_Book))
    (G_Book_room_with:FnOk P w K mg base CX0 k a.a_Book_room_with a.d_Book_room_with p_Book_room_with (spRoomWithH a.a_Book 9)):FnOk P w K mg base CX0 (k + 1) a.a_room_in a.d_room_in p_room_in (spRoomInH a.a_Book):=by
  refine T.f_room_in.F.ok sc_room_in (fun vs H Q E h=>?_) (fun cdv A outer s H vs Q E hr h=>?_)
  · obtain ⟨nb,b,kd,os,ps,ns,rs,G,F,j,x,kvs,rfl,_⟩:=h
    rfl
  obtain ⟨nb,b,kd,os,ps,ns,rs,G,F,j,x,kvs,rfl,hN,hB,mk,hlen,hx,hkd,hg,q⟩:=h
  refine ⟨_,(pss_cons (ps_setA 4 sc_room_in.nd (pe_methD (pv 1) T.c_Book T.f_Book_room G_Book_room hr (pa_cons (pv 2) pa_nil)))
      (pss_cons (ps_if (pt_cmpR op_isN (pv 4) pe_non (nomark _)) (pss_one (ps_ret (pv 2))) pss_nil)
      (pss_cons (ps_setA 5 sc_room_in.nd (pe_meth0D (pv 0) T.c_Book T.f_Book_order G_Book_order hr))
      (pss_cons (ps_setA 6 sc_room_in.nd (pe_callD G_rows_with hr T.f_rows_with (pa_cons (pe_bm PySem.F.plainAttrs_list PySem.F.slot_list_index PySem.F.type_list_index mt_index (pv 5) (pa_cons (pe_ix ix_tup (pv 4) pe_int (fun _ _=>rfl)) pa_nil)) (pa_cons (pe_callB call_len_seq rfl T.n_len bt_len (pa_cons (pv 5) pa_nil)) pa_nil))))
      (pss_one (ps_ret (pe_methD (pv 0) T.c_Book T.f_Book_room_with G_Book_room_with hr (pa_cons (pe_callD G_chosen hr T.f_chosen (pa_cons (pv 6) (pa_cons (pe_methD (pv 0) T.c_Book T.f_Book_table_at G_Book_table_at hr (pa_cons (pe_dget (hu_of hr) (pv 3) (pe_ix ix_tup (pv 4) pe_int (fun _ _=>rfl)) (fun _ _=>rfl)) pa_nil)) (pa_cons (pe_methD (pv 0) T.c_Book T.f_Book_table_at G_Book_table_at hr (pa_cons (pe_dget (hu_of hr) (pv 3) (pe_ix ix_tup (pv 4) pe_int (fun _ _=>rfl)) (fun _ _=>rfl)) pa_nil)) pa_nil)))) pa_nil)))))))),?_⟩
  have L:=bookLike a.a_Book
  have BK:=L.bk hB
  have NK:=L.bk hN
  have n8:=(L.ord hN).le
  obtain ⟨dx,fs,hins,hm⟩:=L.ins hB
  refine ⟨_,rfl,b,dx,_,rfl,hins,hm _ (by decide +kernel),_,rfl,b,os,rs,F,j,x,rfl,hB,hx,fun v H1 g1 rv=>?_⟩
  cases x with
  | none =>
    have hv:v = .non:=rv
    subst hv
    refine ⟨_,rfl,rfl,_,rfl,iteT ?_⟩
    refine ⟨_,rfl,?_⟩
    have l2:=Bdd.len2 NK
    rcases bk_none BK hx with z | z <;> subst z
    · exact q 0 ns H1 (Away.of_same g1) (Tups.of g1) (L.same hN g1) (.refl _) ⟨by omega,fun r=>rfl⟩ (by omega)
    · exact q 1 ns H1 (Away.of_same g1) (Tups.of g1) (L.same hN g1) (.refl _) ⟨by omega,fun r=>(Bdd.yes_yes NK r).trans (Bdd.yes_yes BK _).symm⟩ (by omega)
  | some t =>
    obtain ⟨i,lo,hi⟩:=t
    obtain ⟨p,y,rfl,hy,hp⟩:=rv
    refine ⟨_,rfl,rfl,_,rfl,iteF ?_⟩
    have hN1:=L.same hN g1
    obtain ⟨dn,ml,rl,tl,nd,rv,ts,kv2,h⟩:=hN1
    have hN1:BookAt a.a_Book H1 nb ps ns G:=⟨dn,ml,rl,tl,nd,rv,ts,kv2,h⟩
    obtain ⟨jl,jh,v1,v2,m1,m2⟩:=hg i lo hi rfl
    have hyo:y∈os:=List.mem_of_getElem? hy
    have hyp:y∈ps:=(mk.mem y).mp hyo
    obtain ⟨i1,i2,i3⟩:=ix_spec hyp
    refine ⟨_,rfl,nb,dn,_,rfl,h.hb,rfl,nb,ps,ns,G,rfl,hN1,fun ol H2 g2 fo ho=>?_⟩
    have hp2:=g2 _ _ hp
    have g12:=g1.trans g2
    have hN2:=L.same hN g12
    have hkd2:=g12 _ _ hkd
    refine ⟨_,rfl,.inl ⟨rfl,_,SqL.of ho⟩,_,rfl,p,_,_,_,rfl,rfl,SqT.of hp2,rfl,ol,_,_,_,rfl,rfl,SqL.of ho,rfl,flat_strs _,i1,?_⟩
    refine ⟨_,rfl,ol,_,rfl,.inl (SqL.of ho),?_⟩
    refine ⟨ix ps y,ps.length,by rw [List.length_map]; rfl,i2,n8,fun W tw=>?_⟩
    have z1:=DGet.k (k:=Sum.inl (lo:Int)) hkd2
    rw [v1] at z1
    have z2:=DGet.k (k:=Sum.inl (hi:Int)) hkd2
    rw [v2] at z2
    have hb2:=g2 _ _ h.hb
    refine ⟨_,rfl,nb,dn,_,rfl,hb2,rfl,_,rfl,_,rfl,nb,dn,_,rfl,hb2,rfl,_,rfl,_,rfl,p,_,_,_,rfl,rfl,SqT.of hp2,rfl,kd,_,rfl,z1,?_⟩
    refine ⟨nb,ps,ns,G,jl,rfl,hN2,m1.1,fun t1 tb1=>?_⟩
    refine ⟨_,rfl,nb,dn,_,rfl,hb2,rfl,_,rfl,_,rfl,p,_,_,_,rfl,rfl,SqT.of hp2,rfl,kd,_,rfl,z2,?_⟩
    refine ⟨nb,ps,ns,G,jh,rfl,hN2,m2.1,fun t2 tb2=>?_⟩
    refine ⟨W,t1,t2,ps.length,_,_,_,rfl,tw,tb1,tb2,fun R tr=>?_⟩
    refine ⟨nb,ps,ns,G,R,0,_,rfl,hN2,by show ns.length + 512≤9000000; omega,Nat.zero_le _,by omega,tr,fun i hi=>absurd hi (Nat.not_lt_zero _),fun j' ns' H' aw tu hB' gr lt y' ln _ hh=>?_⟩
    refine q j' ns' H' (fun x o e nf=>aw x o (g12 _ _ e) nf) (fun x xs e=>tu _ _ (g12 _ _ e)) hB' gr ⟨lt,fun r=>?_⟩ (Nat.le_trans hh (Nat.add_le_add_left (Bdd.bH_8 n8) _))
    have e1:trn os ps r i = r (ix ps y):=by
      unfold trn
      rw [List.getD_eq_getElem?_getD,hy]
      rfl
    rw [y']
    show (if (Bdd.bits r ps.length).testBit (ix ps y) then Bdd.yes ns jh (Bdd.rowN (Bdd.bits r ps.length)) else Bdd.yes ns jl (Bdd.rowN (Bdd.bits r ps.length))) = Bdd.yes rs j (trn os ps r)
    rw [Bdd.yes_step BK hx,Bdd.bits_bit r i2,yes_at NK m1,yes_at NK m2,e1]
theorem ok_rooms_inH (T:Txt P w K mg a)
    (G_room_in:FnOk P w K mg base CX0 k a.a_room_in a.d_room_in p_room_in (spRoomInH a.a_Book)):FnOk P w K mg base CX0 (k + 1) a.a_rooms_in a.d_rooms_in p_rooms_in (spRoomsInH a.a_Book):=by
  refine T.f_rooms_in.F.ok sc_rooms_in (fun vs H Q E h=>?_) (fun cdv A outer s H vs Q E hr h=>?_)
  · obtain ⟨nb,b,rl,os,ps,ns,rs,G,F,ks,rfl,_⟩:=h
    rfl
  obtain ⟨nb,b,rl,os,ps,ns,rs,G,F,ks,rfl,hN,hB,mk,dj,hrl,nrl,rise,hlen,q⟩:=h
  refine ⟨_,(pss_cons (ps_setA 3 sc_rooms_in.nd pe_dnewK)
      (pss_cons (ps_for PassesOwn.never rfl (pi_list (pv 2)) (pg_name (i:=4) sc_rooms_in.nd rfl (Or.inl rfl)) (pss_one (ps_dput (hu_of hr) (pv 3) (pv 4) (pe_callD G_room_in hr T.f_room_in (pa_cons (pv 0) (pa_cons (pv 1) (pa_cons (pv 4) (pa_cons (pv 3) pa_nil))))) rfl)))
      (pss_one (ps_ret (pe_listVals rfl rfl T.n_list (pv 3)))))),?_⟩
  have L:=bookLike a.a_Book
  refine fun kd hkd=>?_
  have g0:=Same.new hkd (.dK [])
  have nk:¬ G kd:=L.fresh hN hkd
  have nfk:¬ F kd:=L.fresh hB hkd
  refine ⟨_,rfl,rl,rfl,⟨_,SqL.of (g0 _ _ hrl)⟩,?_⟩
  refine for_list (xs:=ks.map fun k=>V.int (k:Nat)) (fun i σ H'=>∃ (ns':List Bdd.Rm) (js:List Nat) (kvs:List (Key × V)) (f4:Option V),Away G H H'∧Tups H H'∧BookAt a.a_Book H' nb ps ns' G∧Bdd.Grown ns ns'∧Bdd.hiN ps.length ns'≤Bdd.hiN ps.length ns + 63 * i∧H' kd = some (.dK kvs)∧js.length = i∧KsJs (ks.take i) js kvs ∧
      (∀ (m k j:Nat),(ks.take i)[m]? = some k→js[m]? = some j→Bdd.Means ns' j (fun r=>Bdd.yes rs k (trn os ps r)))∧σ = [some (.ref nb),some (.ref b),some (.ref rl),some (.ref kd),f4])
    ⟨ns,[],[],_,Away.of_same g0,Tups.of g0,L.same hN g0,.refl _,by omega,upd_same,rfl,KsJs.nil,fun m k j h=>by simp at h,rfl⟩ ?_ ?_ ?_
  · rintro i σ H' _ ⟨ns',js,kvs,f4,aw,_⟩
    exact SqL.of (aw _ _ hrl nrl)
  · rintro i x σ H' hx ⟨ns',js,kvs,f4,aw,tu,hN',gr,ln,hk',jl,kj,ms,rfl⟩
    rw [List.getElem?_map] at hx
    cases hp:ks[i]? with
    | none=>rw [hp] at hx; cases hx
    | some p =>
      rw [hp] at hx
      cases hx
      obtain ⟨lt,ei⟩:=List.getElem?_eq_some_iff.mp hp
      obtain ⟨pl,pg⟩:=rise.2 i p hp
      have hB':BookAt a.a_Book H' b os rs F:=L.frame hB (fun x o e hf=>aw x o e (dj x hf)) tu
      have tl:(ks.take i).length = i:=by rw [List.length_take]; omega
      refine ⟨_,rfl,_,rfl,_,rfl,_,rfl,nb,b,kd,os,ps,ns',rs,G,F,p,rs[p],kvs,rfl,hN',hB',mk,?_,List.getElem?_eq_getElem pl,hk',fun pi lo hi e=>?_,fun j ns2 H2 aw2 tu2 hN2 gr2 me ln2=>?_⟩
      · have:63 * i≤63 * ks.length:=Nat.mul_le_mul_left _ (by omega)
        have:=Bdd.hi_len (L.bk hN')
        omega
      · obtain ⟨c1,c2⟩:=pg pi lo hi (by rw [List.getElem?_eq_getElem pl,e])
        obtain ⟨m1,j1,a1,a2,a3⟩:=kj.at (jl.trans tl.symm) c1
        obtain ⟨m2,j2,b1,b2,b3⟩:=kj.at (jl.trans tl.symm) c2
        exact ⟨j1,j2,a3,b3,ms m1 lo j1 a1 a2,ms m2 hi j2 b1 b2⟩
      · have hk2:=aw2 _ _ hk' nk
        refine ⟨_,rfl,_,rfl,kd,_,rfl,DPut.k (k:=Sum.inl (p:Int)) hk2 ?_,?_⟩
        · have:=kj.len
          have:kvs.length≤ks.length:=by rw [this,tl]; omega
          have:63 * ks.length≤8000000:=by omega
          exact Nat.lt_of_lt_of_le (show kvs.length < 1000000 by omega) (by decide)
        have u2:Away G H (upd H2 kd (.dK (putK kvs (Sum.inl (p:Int)) (.int (j:Nat))))):=fun x o e nx=>by
          have z:=aw2 x o (aw x o e nx) nx
          rw [upd_ne (fun y=>by rw [y,hkd] at e; cases e)]
          exact z
        have np:p ∉ ks.take i:=not_mem_take rise.1 hp
        refine ⟨ns2,js ++ [j],putK kvs (Sum.inl (p:Int)) (.int (j:Nat)),some (.int (p:Nat)),u2,fun x xs e=>?_,?_,gr.trans gr2,by rw [Nat.mul_succ]; omega,upd_same,by rw [List.length_append,jl]; rfl,?_,?_,rfl⟩
        · have z:=tu2 _ _ (tu _ _ e)
          rw [upd_ne (fun y=>by rw [y,hkd] at e; cases e)]
          exact z
        · refine L.frame hN2 (fun x o e hx=>?_) (fun x xs e=>?_)
          · rw [upd_ne (fun y:x = kd=>nk (y ▸ hx))]; exact e
          · rw [upd_ne (fun y=>by rw [y,hk2] at e; cases e)]; exact e
        · rw [List.take_succ,hp]
          exact kj.snoc (jl.trans tl.symm) np
        · intro m k j' hm hj
          rw [List.take_succ,hp] at hm
          by_cases hmi:m < i
          · rw [show (some p).toList = [p] from rfl,List.getElem?_append_left (by omega)] at hm
            rw [List.getElem?_append_left (by omega)] at hj
            exact (ms m k j' hm hj).grown (L.bk hN') gr2
          · have hml:=(List.getElem?_eq_some_iff.mp hj).1
            rw [List.length_append,List.length_singleton] at hml
            have em:m = i:=by omega
            subst em
            rw [show (some p).toList = [p] from rfl,List.getElem?_append_right (by omega),tl,Nat.sub_self] at hm
            rw [List.getElem?_append_right (by omega),jl,Nat.sub_self] at hj
            cases hm
            cases hj
            exact me
  · rintro σ H' ⟨ns',js,kvs,f4,aw,tu,hN',gr,ln,hk',jl,kj,ms,rfl⟩
    rw [List.length_map] at ln jl kj ms
    rw [List.take_length] at kj ms
    refine ⟨_,rfl,kd,kvs,rfl,hk',fun l hl=>?_⟩
    have g3:=Same.new hl (.lst (kvs.map (·.2)))
    have fl:H l = none:=by
      cases e:H l with
      | none=>rfl
      | some o =>
        by_cases gl:G l
        · exact absurd hl (L.there hN' gl)
        · rw [aw l o e gl] at hl; cases hl
    refine q l _ ns' js (fun x o e nx=>g3 _ _ (aw x o e nx)) (fun x xs e=>g3 _ _ (tu _ _ e)) (L.same hN' g3) gr fl ?_ jl ms ln
    rw [upd_same,kj.vals jl]
theorem ok_all_orders_step {d:Nat} (T:Txt P w K mg a) (G_all_orders:FnOk P w K mg base CX0 k a.a_all_orders a.d_all_orders p_all_orders (spAllOrders K d)):FnOk P w K mg base CX0 (k + 1) a.a_all_orders a.d_all_orders p_all_orders (spAllOrders K (d + 1)):=by
  refine T.f_all_orders.F.ok sc_all_orders (fun vs H Q E h=>?_) (fun cdv A outer s H vs Q E hr h=>?_)
  · obtain ⟨l,ms,rfl,_⟩:=h
    rfl
  obtain ⟨l,ms,rfl,hl,nd,m5,md,q⟩:=h
  refine ⟨_,(pss_cons (ps_if (pt_cmpR op_eq (pe_callB call_len_seq rfl T.n_len bt_len (pa_cons (pv 0) pa_nil)) pe_int (nomark _)) (pss_one (ps_ret (pe_lst (pa_cons (pe_lst pa_nil) pa_nil)))) pss_nil)
      (pss_cons (ps_setA 1 sc_all_orders.nd (pe_lst pa_nil))
      (pss_cons (ps_for PassesOwn.never rfl (pi_list (pv 0)) (pg_name (i:=2) sc_all_orders.nd rfl (Or.inr rfl)) (pss_cons (ps_setLC (i:=3) sc_all_orders.nd rfl (Or.inl rfl) (.inl rfl) (osc:=defScope S_all_orders) (js:=[2]) rfl (by show LcOk _ _ "other" ["mark"]; exact lco (by decide +kernel)) rfl (pi_list (pv 0)) (by show ∀ j∈([2]:List Nat),j < 4; decide) (fun cl C s₂ H₂ fp pins s' σ' H' Q I h=>wpAny_tests_one ((pt_cmpR op_ne (pv 0) (pv 1) (nomark _)) pins s' σ' H' Q I h)) (fun cl C s₂ H₂ fp=>(pv 0)) rfl)
      (pss_one (ps_expr (pe_bm PySem.F.plainAttrs_list PySem.F.slot_list_extend PySem.F.type_list_extend mt_extend (pv 1) (pa_cons (pe_lc0 (osc:=defScope S_all_orders) (js:=[2]) rfl (by show LcOk _ _ "order" ["mark"]; exact lco (by decide +kernel)) rfl (pi_list (pe_callD G_all_orders hr T.f_all_orders (pa_cons (pv 3) pa_nil))) (by show ∀ j∈([2]:List Nat),j < 4; decide) (fun cl C s₂ H₂ fp=>(pe_op (op_addLK (K:=K) rfl) (pe_lst (pa_cons (pv 1) pa_nil)) (pv 0)))) pa_nil))))))
      (pss_one (ps_ret (pv 1)))))),?_⟩
  refine ⟨_,rfl,l,_,rfl,.inl hl,rfl,_,rfl,ite2 (fun c=>?_) (fun c=>?_)⟩
  · have m0:ms.length = 0:=by
      have:=of_decide_eq_true c
      injection this with this
      rw [List.length_map] at this
      omega
    refine ⟨Nat.zero_le _,fun p hp=>⟨by show 1≤sizeLine; decide,fun l' hl'=>?_⟩⟩
    have g1:=Same.new hp (.lst [])
    have g2:=Same.new hl' (.lst [.ref p])
    refine q l' _ [p] (g1.trans g2) (g1.free hl') upd_same ?_
    rw [m0]
    exact .cons ⟨hp,g2 _ _ upd_same⟩ .nil
  · obtain ⟨k',hk'⟩:∃ k',ms.length = k' + 1:=⟨ms.length - 1,by
      rcases Nat.eq_zero_or_pos ms.length with z | z
      · exact absurd (decide_eq_true (by rw [List.length_map,z]; rfl)) c
      · omega⟩
    refine ⟨Nat.zero_le _,fun f hf=>?_⟩
    have g0:=Same.new hf (.lst [])
    have sz:=prm_size ms.length ms
    have p5:=pow5 m5 m5
    have tot:(prm (k' + 1) ms).length≤3125:=by rw [← hk']; omega
    refine ⟨_,rfl,l,rfl,⟨_,g0.seq hl⟩,?_⟩
    refine for_list (xs:=ms.map V.str) (fun i σ H'=>∃ (ps:List Addr) (f2 f3:Option V),Same H H'∧H' f = some (.lst (ps.map V.ref))∧OrdL H H' ps ((ms.take i).flatMap fun m=>(prm k' (ms.filter fun x=>!decide (x = m))).map (m :: ·))∧f ∉ ps∧σ = [some (.ref l),some (.ref f),f2,f3]) ⟨[],_,_,g0,upd_same,.nil,List.not_mem_nil,rfl⟩ (fun i σ H' _ ⟨_,_,_,g,_⟩=>g.seq hl) ?_ ?_
    · rintro i x σ H1 hx ⟨ps,f2,f3,g,hf1,hps,nps,rfl⟩
      rw [List.getElem?_map] at hx
      cases hm:ms[i]? with
      | none=>rw [hm] at hx; cases hx
      | some m =>
        rw [hm] at hx
        cases hx
        have hmm:=List.mem_of_getElem? hm
        refine ⟨_,rfl,l,rfl,⟨_,g.seq hl⟩,?_⟩
        refine lc_list (xs:=ms.map V.str) (fun j ys H'=>H' = H1∧ys = ((ms.take j).filter fun x=>!decide (x = m)).map V.str) ⟨rfl,rfl⟩ (by rw [List.length_map]; exact Nat.le_of_lt (small1000 (by omega))) ?_ ?_ ?_ ?_ ?_
        · rintro j ys H' hj ⟨rfl,rfl⟩
          have:=List.length_filter_le (fun x=>!decide (x = m)) (ms.take j)
          rw [List.length_take] at this
          exact ⟨g.seq hl,by rw [List.length_map]; omega⟩
        · rintro j y ys H' hy ⟨rfl,rfl⟩
          rw [List.getElem?_map] at hy
          cases hj:ms[j]? with
          | none=>rw [hj] at hy; cases hy
          | some x =>
            rw [hj] at hy
            cases hy
            refine ⟨_,rfl,_,rfl,rfl,_,rfl,?_⟩
            have ed:decide (V.str x = V.str m) = decide (x = m):=decide_eq_decide.mpr ⟨fun e=>by injection e,fun e=>by rw [e]⟩
            rw [ed,take_next hj,List.filter_append,List.map_append]
            cases hc:decide (x = m) with
            | true =>
              refine iteF ⟨rfl,?_⟩
              rw [List.filter_cons,hc]; simp
            | false =>
              refine iteT ⟨_,rfl,rfl,?_⟩
              rw [List.filter_cons,hc]; simp
        · rintro σ' H2 Q1 Q2 hQ ⟨v1,e1,v2,e2,a1,a2,a3,q'⟩
          exact ⟨v1,e1,v2,e2,a1,a2,a3,hQ _ _ q'⟩
        · rintro σ' H2 Q1 Q2 hQ ⟨v,e,q'⟩
          exact ⟨v,e,hQ _ _ q'⟩
        rintro ys H2 ol ⟨rfl,rfl⟩ hol
        rw [List.length_map,List.take_length]
        have g2:=Same.new hol (.lst ((ms.filter fun x=>!decide (x = m)).map V.str))
        have hol2:upd H2 ol (.lst ((ms.filter fun x=>!decide (x = m)).map V.str)) ol = some (.lst ((ms.filter fun x=>!decide (x = m)).map V.str)):=upd_same
        have lo:(ms.filter fun x=>!decide (x = m)).length = k':=by
          have:=filt_ne nd hmm
          omega
        have hf2:=g2 _ _ hf1
        generalize upd H2 ol (.lst ((ms.filter fun x=>!decide (x = m)).map V.str)) = H3 at g2 hol2 hf2
        refine ⟨_,rfl,.inl ⟨rfl,_,SqL.of hf2⟩,?_⟩
        refine ⟨_,rfl,ol,_,rfl,SqL.of hol2,nd.filter _,by omega,by omega,fun l1 H4 qs g4 fl1 hl1 hqs=>?_⟩
        rw [lo] at hqs
        have lq:=pd_len hqs
        have s1:=prm_size k' (ms.filter fun x=>!decide (x = m))
        have p51:(ms.filter fun x=>!decide (x = m)).length ^ k'≤3125:=pow5 (by omega) (by omega)
        refine ⟨l1,rfl,⟨_,SqL.of hl1⟩,?_⟩
        refine lc_list (xs:=qs.map V.ref) (fun j ys H'=>Same H4 H'∧∃ ws:List Addr,ys = ws.map V.ref∧OrdL H4 H' ws (((prm k' (ms.filter fun x=>!decide (x = m))).take j).map (m :: ·))) ⟨Same.refl _,[],rfl,.nil⟩ (by rw [List.length_map]; exact Nat.le_of_lt (small3125 (by omega))) ?_ ?_ (fun _ _ _ _ h q=>h _ _ q) ?_ ?_
        · rintro j ys H' hj ⟨gg,ws,rfl,hw⟩
          have:=pd_len hw
          rw [List.length_map,List.length_take] at this
          exact ⟨SqL.of (gg _ _ hl1),by rw [List.length_map]; omega⟩
        · rintro j y ys H' hy ⟨gg,ws,rfl,hw⟩
          rw [List.getElem?_map] at hy
          cases hj:qs[j]? with
          | none=>rw [hj] at hy; cases hy
          | some p =>
            rw [hj] at hy
            cases hy
            obtain ⟨o,ho,fp,hpo⟩:=pd_at hqs hj
            have lo':=prm_len _ _ o (List.mem_of_getElem? ho)
            refine tyes (iteT ?_)
            refine ⟨_,rfl,by show 1≤sizeLine; decide,fun z hz=>?_⟩
            have a1:=Same.new hz (.lst [.str m])
            refine ⟨_,rfl,z,p,_,_,rfl,rfl,SqL.of upd_same,SqL.of ((gg.trans a1) _ _ hpo),?_,fun nl hnl=>?_⟩
            · rw [List.length_map,lo']; exact Nat.le_of_lt (small1000 (show 1 + k'≤1000 by omega))
            have a2:=Same.new hnl (.lst ([.str m] ++ o.map V.str))
            refine ⟨gg.trans (a1.trans a2),ws ++ [nl],by rw [List.map_append]; rfl,?_⟩
            rw [take_next ho,List.map_append]
            exact pd_app (OrdL.mono hw (a1.trans a2)) (.cons ⟨(gg.trans a1).free hnl,by rw [upd_same]; rfl⟩ .nil)
        · rintro σ' H5 Q1 Q2 hQ ⟨v1,e1,z1,z2⟩
          exact ⟨v1,e1,z1,fun p hp=>let ⟨v2,e2,b1,b2,b3,b4,b5,b6,b7,b8,b9,b10⟩:=z2 p hp; ⟨v2,e2,b1,b2,b3,b4,b5,b6,b7,b8,b9,fun l' hl'=>hQ _ _ (b10 l' hl')⟩⟩
        rintro ys H5 cl ⟨gg,ws,rfl,hw⟩ hcl
        rw [List.length_map,lq,List.take_length] at hw
        have g5:=Same.new hcl (.lst (ws.map V.ref))
        have g15:=g2.trans (g4.trans (gg.trans g5))
        have lw:=pd_len hw
        rw [List.length_map] at lw
        have lps:=pd_len hps
        have part:((ms.take i).flatMap fun m=>(prm k' (ms.filter fun x=>!decide (x = m))).map (m :: ·)).length + (prm k' (ms.filter fun x=>!decide (x = m))).length≤3125:=by
          have e:prm (k' + 1) ms = ((ms.take i).flatMap fun m=>(prm k' (ms.filter fun x=>!decide (x = m))).map (m :: ·)) ++ ((ms.drop i).flatMap fun m=>(prm k' (ms.filter fun x=>!decide (x = m))).map (m :: ·)):=by
            rw [← List.flatMap_append,List.take_append_drop]; rfl
          rw [e,List.length_append] at tot
          obtain ⟨hi',ei'⟩:=List.getElem?_eq_some_iff.mp hm
          rw [List.drop_eq_getElem_cons hi',ei',List.flatMap_cons,List.length_append,List.length_map] at tot
          omega
        refine ⟨f,cl,_,_,rfl,rfl,g15 _ _ hf1,upd_same,?_,?_⟩
        · rw [List.length_map,List.length_map,lps,lw]; exact Nat.le_of_lt (small3125 part)
        have nws:f ∉ ws:=OrdL.out hw (g4 _ _ hf2)
        refine ⟨ps ++ ws,_,_,(g.trans g15).over hf _,?_,?_,fun z=>(List.mem_append.mp z).elim nps nws,rfl⟩
        · rw [upd_same,List.map_append]
        · rw [take_next hm,List.flatMap_append,List.flatMap_cons,List.flatMap_nil,List.append_nil]
          exact pd_app (OrdL.upd (OrdL.mono hps g15) nps) (OrdL.upd (OrdL.old (OrdL.mono hw g5) (g.trans (g2.trans g4))) nws)
    · rintro σ H1 ⟨ps,f2,f3,g,hf1,hps,nps,rfl⟩
      rw [List.length_map,List.take_length] at hps
      refine ⟨_,rfl,?_⟩
      refine q f H1 ps g hf hf1 ?_
      rw [hk']
      exact hps
theorem ok_all_orders (T:Txt P w K mg a):∀ d:Nat,FnOk P w K mg base CX0 (k + d) a.a_all_orders a.d_all_orders p_all_orders (spAllOrders K d)
  | 0=>⟨fun vs H Q E h=>by obtain ⟨l,ms,rfl,_⟩:=h; rfl,fun A outer s H args us vs Q E _ _ _ _ h=>by obtain ⟨l,ms,_,_,_,_,z,_⟩:=h; exact absurd z (Nat.not_lt_zero _)⟩
  | d + 1=>ok_all_orders_step (k:=k + d) T (ok_all_orders T d)
theorem ok_size_inH (T:Txt P w K mg a) (G_Book_init:FnOk P w K mg base CX0 k a.a_Book_init a.d_Book_init p_Book_init (spBookInit (BookAt a.a_Book) K a.a_Book)) (G_Book_below:FnOk P w K mg base CX0 (k + 1) a.a_Book_below a.d_Book_below p_Book_below (spBookBelow (BookAt a.a_Book))) (G_rooms_in:FnOk P w K mg base CX0 (k + 1) a.a_rooms_in a.d_rooms_in p_rooms_in (spRoomsInH a.a_Book)) (G_size_of:FnOk P w K mg base CX0 (k + 1) a.a_size_of a.d_size_of p_size_of (spSizeOf5 a.a_Book)):FnOk P w K mg base CX0 (k + 2) a.a_size_in a.d_size_in p_size_in (spSizeIn a.a_Book K):=by
  refine T.f_size_in.F.ok sc_size_in (fun vs H Q E h=>?_) (fun cdv A outer s H vs Q E hr h=>?_)
  · obtain ⟨b,pl,os,ps,rs,F,k0,rfl,_⟩:=h
    rfl
  obtain ⟨b,pl,os,ps,rs,F,k0,rfl,hB,hk,hp,ho,mk,el,o5,q⟩:=h
  refine ⟨_,(pss_cons (ps_setA 3 sc_size_in.nd (pe_make T.mk_Book G_Book_init hr rfl T.m_Book T.f_Book_init.b .nil pass0 (pa_cons (pv 2) pa_nil)))
      (pss_one (ps_ret (pe_callD G_size_of hr T.f_size_of (pa_cons (pv 3) (pa_cons (pe_ix ix_list (pe_callD G_rooms_in hr T.f_rooms_in (pa_cons (pv 3) (pa_cons (pv 0) (pa_cons (pe_methD (pv 0) T.c_Book T.f_Book_below G_Book_below hr (pa_cons (pv 1) pa_nil)) pa_nil)))) (pe_un un_neg pe_int) (fun _ _=>rfl)) pa_nil)))))),?_⟩
  have L:=bookLike a.a_Book
  have o8:=(L.ord hB).le
  have BK:=L.bk hB
  have p8:2 ^ os.length≤256:=Nat.le_trans (Nat.pow_le_pow_right (n:=2) (by decide) o8) (by decide)
  refine ⟨_,rfl,fun nb dx hnb hdx hne=>⟨nb,dx,pl,ps,rfl,upd_same,Ne.symm hne,?_,ho,fun H1 G keep hN hG=>⟨rfl,?_⟩⟩⟩
  · exact ((Same.new hdx _).trans (Same.new (by rw [upd_ne (Ne.symm hne)]; exact hnb) _)).seq hp
  have g1:Same H H1:=fun x o e=>keep x o (by rw [upd_ne (ne_of_none e hnb),upd_ne (ne_of_none e hdx)]; exact e) (ne_of_none e hnb)
  have hG1:∀ x,G x→H x = none:=fun x hx=>by
    rcases hG x hx with z | z | z
    · rw [z]; exact hnb
    · rw [z]; exact hdx
    · by_cases e1:x = nb
      · rw [e1] at z; rw [upd_same] at z; cases z
      · by_cases e2:x = dx
        · rw [e2,upd_ne hne,upd_same] at z; cases z
        · rw [upd_ne e1,upd_ne e2] at z; exact z
  have hB1:=L.same hB g1
  obtain ⟨dx1,fs1,hins1,hm1⟩:=L.ins hB1
  refine ⟨_,rfl,_,rfl,_,rfl,_,rfl,b,dx1,fs1,rfl,hins1,hm1 _ (by decide +kernel),_,rfl,b,os,rs,F,k0,rfl,hB1,o5,hk,fun bl H2 ms g2 fbl hbl isb=>?_⟩
  obtain ⟨ks,rfl,ris,last,kp⟩:=Bdd.below_list BK hk isb
  have lks:=isb.len BK hk
  rw [List.length_map] at lks
  rw [List.map_map] at hbl
  have hN2:=L.same hN g2
  have hB2:=L.same hB1 g2
  refine ⟨nb,b,bl,os,ps,[none,none],rs,G,F,ks,rfl,hN2,hB2,mk,(fun x fx gx=>L.there hB fx (hG1 x gx)),hbl,L.fresh hN fbl,ris,by show 0 + 63 * ks.length + 16≤8000000; omega,fun l H3 ns js aw tu hN3 gr fl hl lj hmean hb=>?_⟩
  have g13:Same H H3:=fun x o e=>aw x o ((g1.trans g2) x o e) fun z=>by rw [hG1 x z] at e; cases e
  obtain ⟨j,hj⟩:∃ j,js[ks.length - 1]? = some j:=⟨_,List.getElem?_eq_getElem (by omega)⟩
  have Mj:=hmean _ _ _ last hj
  have at1:atI (js.map fun j=>V.int (j:Nat)) (-1) = some (.int (j:Nat)):=by
    have js2:js = js.dropLast ++ [j]:=by
      have ne:js≠[]:=List.ne_nil_of_length_pos (by omega)
      have:=List.dropLast_concat_getLast ne
      have e:js.getLast ne = j:=by
        have h1:=List.getLast_eq_getElem ne
        have h2:=List.getElem?_eq_getElem (show js.length - 1 < js.length by omega)
        rw [← lj,h2] at hj
        rw [h1]
        exact Option.some.inj hj
      rw [e] at this
      exact this.symm
    rw [js2,List.map_append]
    exact atI_last _ _
  refine ⟨1,rfl,l,_,_,_,rfl,rfl,SqL.of hl,at1,nb,ps,ns,G,j,rfl,hN3,Mj.1,by omega,fun H4 ms2 g4 isb2=>?_⟩
  have BN:=L.bk hN3
  have e:=Bdd.mean_below BN Mj.1 isb2
  rw [el] at e
  rw [← e,← Bdd.tbl_all]
  have e2:((Bdd.allR os.length).map fun r=>Bdd.yes ns j (Bdd.rowL r)) = (Bdd.allR os.length).map fun r=>Bdd.yes rs k0 (trn os ps (Bdd.rowL r)):=List.map_congr_left fun r _=>Mj.2 _
  rw [e2]
  exact q _ (g13.trans g4)
theorem ok_all_sizes (T:Txt P w K mg a) (G_Book_must_be_room:FnOk P w K mg base CX0 k a.a_Book_must_be_room a.d_Book_must_be_room p_Book_must_be_room (spMustRoom a.a_Book)) (G_Book_order:FnOk P w K mg base CX0 k a.a_Book_order a.d_Book_order p_Book_order (spBookOrder (BookAt a.a_Book))) (G_all_orders:FnOk P w K mg base CX0 k a.a_all_orders a.d_all_orders p_all_orders (spAllOrders K 6)) (G_size_in:FnOk P w K mg base CX0 k a.a_size_in a.d_size_in p_size_in (spSizeIn a.a_Book K)):FnOk P w K mg base CX0 (k + 1) a.a_all_sizes a.d_all_sizes p_all_sizes (spAllSizes a.a_Book):=by
  refine T.f_all_sizes.F.ok sc_all_sizes (fun vs H Q E h=>?_) (fun cdv A outer s H vs Q E hr h=>?_)
  · obtain ⟨b,os,rs,F,k0,rfl,_⟩:=h
    rfl
  obtain ⟨b,os,rs,F,k0,rfl,hB,hk,o5,q⟩:=h
  refine ⟨_,(pss_cons (ps_expr (pe_methD (pv 0) T.c_Book T.f_Book_must_be_room G_Book_must_be_room hr (pa_cons (pv 1) pa_nil)))
      (pss_cons (ps_if (pt_cmpR op_gt (pe_callB call_len_seq rfl T.n_len bt_len (pa_cons (pe_meth0D (pv 0) T.c_Book T.f_Book_order G_Book_order hr) pa_nil)) (pe_glob (v:=.int 5) rfl T.m_MOST_MARKS ⟨_,rfl⟩) (nomark _)) (pss_one ps_never) pss_nil)
      (pss_one (ps_ret (pe_lc0 (osc:=defScope S_all_sizes) (js:=[0,1]) rfl (by show LcOk _ _ "order" ["book", "room"]; exact lco (by decide +kernel)) rfl (pi_list (pe_callD G_all_orders hr T.f_all_orders (pa_cons (pe_callB (call_sorted_strs rfl) rfl T.n_sorted bt_sorted (pa_cons (pe_meth0D (pv 0) T.c_Book T.f_Book_order G_Book_order hr) pa_nil)) pa_nil))) (by show ∀ j∈([0,1]:List Nat),j < 2; decide) (fun cl C s₂ H₂ fp=>(pe_tup (pa_cons (pv 0) (pa_cons (pe_callD G_size_in hr T.f_size_in (pa_cons (pv 1) (pa_cons (pv 2) (pa_cons (pv 0) pa_nil)))) pa_nil))))))))),?_⟩
  have L:=bookLike a.a_Book
  have hord:=L.ord hB
  obtain ⟨dx,ml,rl,tl,nd,rv,tbs,kvs0,h⟩:=hB
  have hB:BookAt a.a_Book H b os rs F:=⟨dx,ml,rl,tl,nd,rv,tbs,kvs0,h⟩
  refine ⟨_,rfl,b,dx,_,rfl,h.hb,rfl,_,rfl,b,os,rs,F,k0,rfl,hB,hk,?_⟩
  refine ⟨_,rfl,b,dx,_,rfl,h.hb,rfl,b,os,rs,F,rfl,hB,fun l1 H1 g1 fl1 hl1=>?_⟩
  refine ⟨l1,_,rfl,.inl (SqL.of hl1),_,5,rfl,rfl,_,rfl,ite2 (fun c=>?_) (fun _=>?_)⟩
  · exfalso
    have:=of_decide_eq_true c
    rw [List.length_map] at this
    omega
  have hB1:=L.same hB g1
  refine ⟨_,rfl,b,dx,_,rfl,g1 _ _ h.hb,rfl,b,os,rs,F,rfl,hB1,fun l2 H2 g2 fl2 hl2=>?_⟩
  refine ⟨l2,os,rfl,SqL.of hl2,by omega,fun l3 ss fl3 pm srt=>?_⟩
  have g3:=Same.new fl3 (.lst (ss.map V.str))
  have ls:=pm.length_eq
  refine ⟨l3,ss,rfl,SqL.of upd_same,pm.nodup_iff.mpr hord.nd,by omega,by omega,fun l4 H4 ps g4 fl4 hl4 hps=>?_⟩
  rw [ls] at hps
  have g04:=g1.trans (g2.trans (g3.trans g4))
  have hB4:=L.same hB g04
  have lp:=pd_len hps
  have sz:=prm_size os.length ss
  have p5:ss.length ^ os.length≤3125:=pow5 (by omega) o5
  refine ⟨l4,rfl,⟨_,SqL.of hl4⟩,?_⟩
  refine lc_list (xs:=ps.map V.ref) (fun j ys H'=>Same H4 H'∧∃ ts:List Addr,ys = ts.map V.ref∧Paired (PairO os (Bdd.yes rs k0) H H') ts ((prm os.length ss).take j)) ⟨Same.refl _,[],rfl,.nil⟩ (by rw [List.length_map]; exact Nat.le_of_lt (small3125 (by omega))) ?_ ?_ (fun _ _ _ _ h q=>h _ _ q) ?_ ?_
  · rintro j ys H' hj ⟨gg,ts,rfl,ht⟩
    have:=pd_len ht
    rw [List.length_take] at this
    exact ⟨SqL.of (gg _ _ hl4),by rw [List.length_map]; omega⟩
  · rintro j y ys H' hy ⟨gg,ts,rfl,ht⟩
    rw [List.getElem?_map] at hy
    cases hj:ps[j]? with
    | none=>rw [hj] at hy; cases hy
    | some p =>
      rw [hj] at hy
      cases hy
      obtain ⟨o,ho,fp,hpo⟩:=pd_at hps hj
      obtain ⟨io,mo,lo⟩:=perm_ord hord pm (List.mem_of_getElem? ho)
      refine tyes (iteT ?_)
      refine ⟨_,rfl,_,rfl,_,rfl,_,rfl,b,p,os,o,rs,F,k0,rfl,L.same hB4 gg,hk,SqL.of (gg _ _ hpo),io,mo,lo,o5,fun H5 g5=>⟨by show 2≤sizeLine; decide,fun t hn=>?_⟩⟩
      have g6:=Same.new hn (.tup [.ref p,.int (szO os (Bdd.yes rs k0) o:Nat)])
      refine ⟨gg.trans (g5.trans g6),ts ++ [t],by rw [List.map_append]; rfl,?_⟩
      rw [take_next ho]
      refine pd_app (pd_imp (fun _ _ e=>PairO.mono e (g5.trans g6)) ht) (.cons ⟨(g04.trans (gg.trans g5)).free hn,p,(g1.trans (g2.trans g3)).free fp,upd_same,(gg.trans (g5.trans g6)) _ _ hpo⟩ .nil)
  · rintro σ' H5 Q1 Q2 hQ ⟨v0,e0,v1,e1,v2,e2,v3,e3,b',pl',os',ps',rs',F',k',y1,y2,y3,y4,y5,y6,y7,y8,q'⟩
    exact ⟨v0,e0,v1,e1,v2,e2,v3,e3,b',pl',os',ps',rs',F',k',y1,y2,y3,y4,y5,y6,y7,y8,fun H6 g6=>let ⟨z1,z2⟩:=q' H6 g6; ⟨z1,fun p hp=>hQ _ _ (z2 p hp)⟩⟩
  rintro ys H5 l5 ⟨gg,ts,rfl,ht⟩ hl5
  rw [List.length_map,lp,List.take_length] at ht
  have g6:=Same.new hl5 (.lst (ts.map V.ref))
  exact q l5 _ ts ss (g04.trans (gg.trans g6)) ((g04.trans gg).free hl5) pm srt upd_same (pd_imp (fun _ _ e=>PairO.mono e g6) ht)
theorem ok_best (T:Txt P w K mg a) (hBL:BaseL mg base a.cL a.pL) (G_all_sizes:FnOk P w K mg base CX0 (k + 2) a.a_all_sizes a.d_all_sizes p_all_sizes (spAllSizes a.a_Book)):FnOk P w K mg base CX0 (k + 3) a.a_best a.d_best p_best (spBest a.a_Book a.pL tbL):=by
  refine T.f_best.F.okL T.lam.code sc_best (fun vs H Q E h=>?_) (fun A outer s H vs Q E hr h=>?_)
  · obtain ⟨b,os,rs,F,k0,rfl,_⟩:=h
    rfl
  obtain ⟨b,os,rs,F,k0,rfl,hB,hk,o5,hP,q⟩:=h
  refine ⟨_,(pss_one (ps_ret (pe_minKey (K:=K) (lx := "entry") rfl rfl hr rfl T.n_min bt_min hBL rfl (pa_cons (pe_callD G_all_sizes hr T.f_all_sizes (pa_cons (pv 0) (pa_cons (pv 1) pa_nil))) pa_nil) (fsc (by decide +kernel)) rfl rfl (fun _ _ _ _ _=>rfl) (fun _ _ _ _ _ _=>(pe_ix ix_tup (pv 0) pe_int (fun _ _=>rfl)))))),?_⟩
  have L:=bookLike a.a_Book
  have ho:=L.ord hB
  refine ⟨_,rfl,_,rfl,b,os,rs,F,k0,rfl,hB,hk,o5,fun l H1 ts ss g1 fl pm srt hl pp=>?_⟩
  have lt:=pd_len pp
  have ls:=pm.length_eq
  refine ⟨l,ts,fun i=>((szO os (Bdd.yes rs k0) ((prm os.length ss).getD i []):Nat):Int),rfl,g1 _ _ hP,SqL.of hl,by rw [lt]; exact prm_pos _ _ (pm.nodup_iff.mpr ho.nd) (by omega),fun i t ht=>?_,fun i t H2 g2 ht best=>?_⟩
  · obtain ⟨o,hoo,_,p,_,e,_⟩:=pd_at pp ht
    refine ⟨.ref p,?_⟩
    dsimp only
    rw [List.getD_eq_getElem?_getD,hoo]
    exact e
  · obtain ⟨o,hoo,ft,p,fp,e1,e2⟩:=pd_at pp ht
    refine q t p o ss H2 (g1.trans g2) pm srt ⟨i,hoo,fun j o' hj=>?_⟩ ft fp (g2 _ _ e1) (g2 _ _ e2)
    have jl:=(List.getElem?_eq_some_iff.mp hj).1
    have z:=best j (by omega)
    dsimp only at z
    rw [List.getD_eq_getElem?_getD,hoo,List.getD_eq_getElem?_getD,hj] at z
    simp only [Option.getD_some] at z
    exact ⟨by omega,fun h=>by have:=z.2 h; omega⟩
end
end K60
namespace K60
open PySem L2 Sen
section
variable {P:Program} {w:World} {K:PySem.W.Frag} {mg:Str→Option Value} {base:Heap} {a:Ad} {k:Nat}
theorem ok_law_which (T:Txt P w K mg a) (ex:Addr):FnOkH P w K mg base ex (k + 1) a.a_x_law_which a.d_x_law_which p_x_law_which (spWhichB K a.a_BookError [a.a_NoOrder,a.a_NoMark,a.a_NoRoom,a.a_NoRow,a.a_NoNumber,a.a_NoWeights,a.a_NoShares,a.a_NoCover,a.a_TooGreat] ex):=by
  refine T.f_x_law_which.F.okH sc_x_law_which (fun vs H Q E h=>?_) (fun cdv A outer s H vs Q E hr hh h=>?_)
  · obtain ⟨D,n,rfl,_⟩:=h
    rfl
  obtain ⟨D,n,rfl,he,xc,hn9,hcs,q⟩:=h
  refine ⟨_,(pss_cons (ps_set (i:=1) sc_x_law_which.nd rfl (Or.inr rfl) (pe_lst (pa_cons (pe_callB (call_isiX (K:=K) rfl) rfl T.n_isinstance bt_isinstance (pa_cons (pv 0) (pa_cons (pe_glob (v:=.ref a.a_NoOrder) rfl T.m_NoOrder rfl) pa_nil))) (pa_cons (pe_callB (call_isiX (K:=K) rfl) rfl T.n_isinstance bt_isinstance (pa_cons (pv 0) (pa_cons (pe_glob (v:=.ref a.a_NoMark) rfl T.m_NoMark rfl) pa_nil))) (pa_cons (pe_callB (call_isiX (K:=K) rfl) rfl T.n_isinstance bt_isinstance (pa_cons (pv 0) (pa_cons (pe_glob (v:=.ref a.a_NoRoom) rfl T.m_NoRoom rfl) pa_nil))) (pa_cons (pe_callB (call_isiX (K:=K) rfl) rfl T.n_isinstance bt_isinstance (pa_cons (pv 0) (pa_cons (pe_glob (v:=.ref a.a_NoRow) rfl T.m_NoRow rfl) pa_nil))) pa_nil))))))
      (pss_cons (ps_set (i:=1) sc_x_law_which.nd rfl (Or.inr rfl) (pe_op op_addL (pv 1) (pe_lst (pa_cons (pe_callB (call_isiX (K:=K) rfl) rfl T.n_isinstance bt_isinstance (pa_cons (pv 0) (pa_cons (pe_glob (v:=.ref a.a_NoNumber) rfl T.m_NoNumber rfl) pa_nil))) (pa_cons (pe_callB (call_isiX (K:=K) rfl) rfl T.n_isinstance bt_isinstance (pa_cons (pv 0) (pa_cons (pe_glob (v:=.ref a.a_NoWeights) rfl T.m_NoWeights rfl) pa_nil))) (pa_cons (pe_callB (call_isiX (K:=K) rfl) rfl T.n_isinstance bt_isinstance (pa_cons (pv 0) (pa_cons (pe_glob (v:=.ref a.a_NoShares) rfl T.m_NoShares rfl) pa_nil))) (pa_cons (pe_callB (call_isiX (K:=K) rfl) rfl T.n_isinstance bt_isinstance (pa_cons (pv 0) (pa_cons (pe_glob (v:=.ref a.a_NoCover) rfl T.m_NoCover rfl) pa_nil))) pa_nil)))))))
      (pss_cons (ps_expr (pe_bm PySem.F.plainAttrs_list PySem.F.slot_list_append PySem.F.type_list_append mt_append (pv 1) (pa_cons (pe_callB (call_isiX (K:=K) rfl) rfl T.n_isinstance bt_isinstance (pa_cons (pv 0) (pa_cons (pe_glob (v:=.ref a.a_TooGreat) rfl T.m_TooGreat rfl) pa_nil))) pa_nil)))
      (pss_cons (ps_set (i:=2) sc_x_law_which.nd rfl (Or.inr rfl) (pe_strs (xs:=["order", "mark", "room", "row", "number", "weights", "shares", "cover", "great"]) (by rfl)))
      (pss_one (ps_ret (pe_tup (pa_cons pe_str (pa_cons (pe_lcTr (rd:=HandE ex) (osc:=defScope S_x_law_which) (js:=[2,1,0]) rfl (by show LcOk _ _ "k" ["terms", "kinds", "e"]; exact lco (by decide +kernel)) (fun _ _ _ _ _ _ _=>hh) (pi_range1H rfl T.n_range (pa_cons pe_int pa_nil)) (by show ∀ j∈([2,1,0]:List Nat),j < 3; decide) (fun cl C s₂ H₂ fp pins s' σ' H' Q I h=>tests_by I h (PW.pt (pw_and (pt_truthK (K:=K) rfl (pe_ix (ix_listK (K:=K) rfl) (pv 2) (pv 0) (fun _ _=>rfl)) (fun _=>rfl)) (pw_and1 (pt_truthK (K:=K) rfl (pe_callB (call_isiX (K:=K) rfl) rfl T.n_isinstance bt_isinstance (pa_cons (pv 3) (pa_cons (pe_bltn (v:=.ty "ValueError") rfl T.n_ValueError bt_ValueError rfl) pa_nil))) (fun _=>rfl)))))) (fun cl C s₂ H₂ fp=>(pe_ix (ix_listK (K:=K) rfl) (pv 1) (pv 0) (fun _ _=>rfl)))) pa_nil))))))))),?_⟩
  have nb:=T.xd
  simp only [List.nodup_cons,List.mem_cons,List.not_mem_nil,or_false,not_or] at nb
  have nb:=nb.1
  have cl:=xc.xcls
  have s1:∀ {H':Hp},Same H H'→H' ex = some (excO ex D):=fun g=>g _ _ he
  have ne:∀ C,C∈[a.a_NoOrder,a.a_NoMark,a.a_NoRoom,a.a_NoRow,a.a_NoNumber,a.a_NoWeights,a.a_NoShares,a.a_NoCover,a.a_TooGreat]→a.a_BookError≠C:=by
    intro C hC
    simp only [List.mem_cons,List.not_mem_nil,or_false] at hC
    rcases hC with rfl | rfl | rfl | rfl | rfl | rfl | rfl | rfl | rfl <;> simp [nb]
  refine ⟨_,rfl,ex,D,_,_,rfl,he,cl,rfl,kit_eq xc T.ac_NoOrder (ne _ (by simp)),_,rfl,ex,D,_,_,rfl,he,cl,rfl,kit_eq xc T.ac_NoMark (ne _ (by simp)),_,rfl,ex,D,_,_,rfl,he,cl,rfl,kit_eq xc T.ac_NoRoom (ne _ (by simp)),_,rfl,ex,D,_,_,rfl,he,cl,rfl,kit_eq xc T.ac_NoRow (ne _ (by simp)),by show 4≤sizeLine; decide,fun l1 h1=>?_⟩
  have g1:=Same.new h1 (.lst [.bl (decide (D = a.a_NoOrder)),.bl (decide (D = a.a_NoMark)),.bl (decide (D = a.a_NoRoom)),.bl (decide (D = a.a_NoRow))])
  have e1:=s1 g1
  have f1:upd H l1 (.lst [.bl (decide (D = a.a_NoOrder)),.bl (decide (D = a.a_NoMark)),.bl (decide (D = a.a_NoRoom)),.bl (decide (D = a.a_NoRow))]) l1 = some _:=upd_same
  generalize upd H l1 _ = H1 at g1 e1 f1
  refine ⟨_,rfl,_,rfl,ex,D,_,_,rfl,e1,cl,rfl,kit_eq xc T.ac_NoNumber (ne _ (by simp)),_,rfl,ex,D,_,_,rfl,e1,cl,rfl,kit_eq xc T.ac_NoWeights (ne _ (by simp)),_,rfl,ex,D,_,_,rfl,e1,cl,rfl,kit_eq xc T.ac_NoShares (ne _ (by simp)),_,rfl,ex,D,_,_,rfl,e1,cl,rfl,kit_eq xc T.ac_NoCover (ne _ (by simp)),by show 4≤sizeLine; decide,fun l2 h2=>?_⟩
  have g2:=Same.new h2 (.lst [.bl (decide (D = a.a_NoNumber)),.bl (decide (D = a.a_NoWeights)),.bl (decide (D = a.a_NoShares)),.bl (decide (D = a.a_NoCover))])
  have f2:upd H1 l2 (.lst [.bl (decide (D = a.a_NoNumber)),.bl (decide (D = a.a_NoWeights)),.bl (decide (D = a.a_NoShares)),.bl (decide (D = a.a_NoCover))]) l2 = some _:=upd_same
  generalize upd H1 l2 _ = H2 at g2 f2
  refine ⟨l1,l2,_,_,rfl,rfl,SqL.of (g2 _ _ f1),SqL.of f2,by show 8≤sizeLine; decide,fun l3 h3=>?_⟩
  have n3:H l3 = none:=(g1.trans g2).free h3
  have g3:=Same.new h3 (.lst ([.bl (decide (D = a.a_NoOrder)),.bl (decide (D = a.a_NoMark)),.bl (decide (D = a.a_NoRoom)),.bl (decide (D = a.a_NoRow))] ++ [.bl (decide (D = a.a_NoNumber)),.bl (decide (D = a.a_NoWeights)),.bl (decide (D = a.a_NoShares)),.bl (decide (D = a.a_NoCover))]))
  have f3:upd H2 l3 (.lst ([.bl (decide (D = a.a_NoOrder)),.bl (decide (D = a.a_NoMark)),.bl (decide (D = a.a_NoRoom)),.bl (decide (D = a.a_NoRow))] ++ [.bl (decide (D = a.a_NoNumber)),.bl (decide (D = a.a_NoWeights)),.bl (decide (D = a.a_NoShares)),.bl (decide (D = a.a_NoCover))])) l3 = some _:=upd_same
  generalize upd H2 l3 _ = H3 at g3 f3
  have g03:=(g1.trans g2).trans g3
  refine ⟨_,rfl,.inl ⟨rfl,_,SqL.of f3⟩,_,rfl,ex,D,_,_,rfl,s1 g03,cl,rfl,kit_eq xc T.ac_TooGreat (ne _ (by simp)),l3,_,_,rfl,rfl,f3,by show 8 < sizeLine; decide,?_⟩
  refine ⟨by show 9≤sizeLine; decide,fun l4 h4=>?_⟩
  have ev:([.bl (decide (D = a.a_NoOrder)),.bl (decide (D = a.a_NoMark)),.bl (decide (D = a.a_NoRoom)),.bl (decide (D = a.a_NoRow))] ++ [.bl (decide (D = a.a_NoNumber)),.bl (decide (D = a.a_NoWeights)),.bl (decide (D = a.a_NoShares)),.bl (decide (D = a.a_NoCover))] ++ [V.bl (decide (D = a.a_TooGreat))]:List V) = ((List.range 9).map (fun i=>decide (i = n))).map V.bl:=by
    rw [← hcs]; rfl
  rw [ev] at h4 ⊢
  have g4:Same H (upd H3 l3 (.lst (((List.range 9).map (fun i=>decide (i = n))).map V.bl))):=g03.over n3 _
  have f4:upd H3 l3 (.lst (((List.range 9).map (fun i=>decide (i = n))).map V.bl)) l3 = some _:=upd_same
  generalize upd H3 l3 _ = H4 at h4 g4 f4 ⊢
  have g5:=g4.trans (Same.new h4 (.lst (termsB.map V.str)))
  have f5:upd H4 l4 (.lst (termsB.map V.str)) l4 = some _:=upd_same
  have f4':=(Same.new h4 (.lst (termsB.map V.str))) _ _ f4
  refine ⟨9,rfl,by decide,by decide,?_⟩
  have key:∀ i:Nat,i < 9→(((List.range 9).map (fun i=>decide (i = n))).map V.bl)[i]? = some (.bl (decide (i = n))):=fun i hi=>by
    rw [List.getElem?_map,List.getElem?_map,List.getElem?_range hi]
    rfl
  have kt:∀ i:Nat,i < 9→(termsB.map V.str)[i]? = some (.str (termsB.getD i "")):=fun i hi=>by
    have:i < termsB.length:=hi
    rw [List.getElem?_map,List.getD_eq_getElem?_getD,List.getElem?_eq_getElem this]
    rfl
  refine lc_genH (n:=9) (fun i ys H'=>Same (upd H4 l4 (.lst (termsB.map V.str))) H'∧ys = if n < i then [.str (termsB.getD n "")] else []) ⟨Same.refl _,by rw [if_neg (Nat.not_lt_zero _)]⟩ (by decide) ?_ ?_ ?_ ?_
  · rintro i ys H' _ ⟨_,rfl⟩
    split
    · show 1≤i
      omega
    · exact Nat.zero_le _
  · rintro ys H' ⟨g,_⟩
    exact ⟨D,s1 (g5.trans g)⟩
  · rintro i ys H' N1 N2 hi ⟨g,rfl⟩ h1 h2
    have ei:(0:Int) + (i:Int) = (i:Int):=by omega
    refine ⟨_,rfl,_,rfl,l3,_,_,.bl (decide (i = n)),rfl,rfl,SqL.of (g _ _ f4'),by rw [ei]; exact atI_nat (key i hi),_,rfl,?_⟩
    by_cases z:i = n
    · subst z
      rw [decide_eq_true rfl]
      refine iteT ⟨_,rfl,ex,D,_,_,rfl,s1 (g5.trans g),cl,rfl,kit_ve xc,_,rfl,iteT ?_⟩
      refine ⟨_,rfl,_,rfl,l4,_,_,_,rfl,rfl,SqL.of (g _ _ f5),by rw [ei]; exact atI_nat (kt i hi),h1 _ _ ⟨g,?_⟩⟩
      rw [if_neg (Nat.lt_irrefl _),if_pos (Nat.lt_succ_self _)]
      rfl
    · rw [decide_eq_false z]
      refine iteF (iteF (h2 _ ⟨g,?_⟩))
      by_cases y:n < i
      · rw [if_pos y,if_pos (by omega)]
      · rw [if_neg y,if_neg (by omega)]
  · rintro ys H' p ⟨g,rfl⟩ hp
    rw [if_pos hn9]
    refine ⟨by show 2≤sizeLine; decide,fun t ht=>?_⟩
    have g7:=Same.new hp (.lst [.str (termsB.getD n "")])
    have g8:=Same.new ht (.tup [.str "refused", .ref p])
    exact q t p _ (((g5.trans g).trans g7).trans g8) upd_same (g8 _ _ upd_same)
end
end K60
namespace K60
open PySem L2 Sen
section
variable {P:Program} {w:World} {K:PySem.W.Frag} {mg:Str→Option Value} {base:Heap} {a:Ad} {k:Nat}
abbrev cs9 (a:Ad):List Addr:=[a.a_NoOrder,a.a_NoMark,a.a_NoRoom,a.a_NoRow,a.a_NoNumber,a.a_NoWeights,a.a_NoShares,a.a_NoCover,a.a_TooGreat]
theorem ok_law_is (T:Txt P w K mg a):FnOk P w K mg base CX0 (k + 1) a.a_x_law_is a.d_x_law_is p_x_law_is (spIsB K):=by
  refine T.f_x_law_is.F.ok sc_x_law_is (fun vs H Q E h=>?_) (fun cdv A outer s H vs Q E hr h=>?_)
  · obtain ⟨t,l,x,rfl,_⟩:=h
    rfl
  obtain ⟨t,l,x,rfl,ht,hl,q⟩:=h
  refine ⟨_,(pss_one (ps_ret (pe_and (pe_callB call_isinst rfl T.n_isinstance bt_isinstance (pa_cons (pv 0) (pa_cons (pe_bltn (v:=.ty "tuple") rfl T.n_tuple bt_tuple rfl) pa_nil))) (pe_and (pe_cmpR (op_eqD rfl (hu8 hr)) (pe_slice sl_tup (pv 0) po_none (po_some pe_int)) (pe_tup (pa_cons pe_str pa_nil)) (nomark _)) (pe_one (pe_cmpR op_in_seq (pv 1) (pe_ix ix_tup (pv 0) pe_int (fun _ _=>rfl)) (by with_unfolding_all rfl))))))),?_⟩
  refine ⟨_,rfl,_,_,_,true,rfl,.tup ht,rfl,true,rfl,iteT ?_⟩
  refine ⟨_,rfl,1,rfl,t,_,rfl,SqT.of ht,fun z=>absurd (show (1:Nat) = 2 from z.2) (by decide),fun p hp=>?_⟩
  refine ⟨by show 1≤sizeLine; decide,fun p2 hp2=>?_⟩
  have g1:=Same.new hp (.tup (cutV [V.str "refused", V.ref l] none (some 1)))
  have g2:=Same.new hp2 (.tup [V.str "refused"])
  have f1:=g2 _ _ (show upd H p (.tup (cutV [V.str "refused", V.ref l] none (some 1))) p = some (.tup [V.str "refused"]) from upd_same)
  have f2:upd (upd H p (.tup (cutV [V.str "refused", V.ref l] none (some 1)))) p2 (.tup [V.str "refused"]) p2 = some _:=upd_same
  have g:=g1.trans g2
  refine ⟨_,fun z=>absurd z.1 Bool.false_ne_true,.tt (e:=fun _=>true) (SqT.of f1) (SqT.of f2) (fun j x y hx hy=>?_),true,rfl,iteT ?_⟩
  · have e:x = y:=Option.some.inj (hx.symm.trans hy)
    subst e
    have hj:x = .str "refused" := by
      cases j with
      | zero=>exact (Option.some.inj hx).symm
      | succ j=>exact absurd hx (by simp)
    subst hj
    have:=EqD.flat (K:=K) (H:=upd (upd H p (.tup (cutV [V.str "refused", V.ref l] none (some 1)))) p2 (.tup [V.str "refused"])) (n:=7) (x:=V.str "refused") (y:=.str "refused") rfl rfl
    rw [eqV_refl rfl] at this
    exact this
  refine ⟨_,rfl,_,rfl,t,_,1,.ref l,rfl,rfl,SqT.of (g _ _ ht),rfl,l,_,rfl,.inl (g.seq hl),rfl,rfl,?_⟩
  have:inV (V.str x) [V.str x] = true:=by
    show (eqV (.str x) (.str x) || false) = true
    rw [eqV_refl rfl]; rfl
  rw [this]
  exact q _ g
theorem okR_Book_must_be_room (T:Txt P w K mg a):FnOk P w K mg base (CXE P w) (k + 1) a.a_Book_must_be_room a.d_Book_must_be_room p_Book_must_be_room (spRoomR a.a_Book a.a_NoRoom):=by
  refine T.f_Book_must_be_room.F.okE sc_Book_must_be_room (fun vs H Q E h=>?_) (fun cdv A outer s H vs Q E hr h=>?_)
  · obtain ⟨b,os,rs,F,j,rfl,_⟩:=h
    rfl
  obtain ⟨b,os,rs,F,j,rfl,⟨dx,ml,rl,tl,nd,rv,ts,kvs,h⟩,hk,hi,q⟩:=h
  refine ⟨_,(pss_one (ps_if (PW.pt (pw_or (pt_cmpR op_lt (pv 1) pe_int (nomark _)) (pw_or1 (pt_cmpR op_ge (pv 1) (pe_callB call_len_seq rfl T.n_len bt_len (pa_cons (pe_fld (pv 0) rfl) pa_nil)) (nomark _))))) (pss_one (ps_raise rfl rfl T.xc_NoRoom.own rfl T.m_NoRoom raisesE (pa_cons (pe_fst (pfs_cons pf_str (pfs_cons (pf_int (pv 1)) pfs_nil))) pa_nil))) pss_nil)),?_⟩
  have hl:=h.len
  refine ⟨_,rfl,_,_,rfl,rfl,_,rfl,ite2 (fun c=>?_) (fun c=>?_)⟩
  · exact ⟨.int j,rfl,j,rfl,hi,fun x=>⟨by show 1≤sizeLine; decide,q⟩⟩
  refine ⟨_,rfl,_,rfl,b,a.a_Book,dx,_,_,rfl,h.hb,T.c_Book,T.na_Book_rooms,rfl,rl,_,rfl,.inl (SqL.of h.hr),_,_,rfl,rfl,_,rfl,ite2 (fun _=>?_) (fun c2=>?_)⟩
  · exact ⟨.int j,rfl,j,rfl,hi,fun x=>⟨by show 1≤sizeLine; decide,q⟩⟩
  · refine absurd hk ?_
    have c:=of_decide_eq_false (Bool.eq_false_iff.mpr c)
    have c2:=of_decide_eq_false (Bool.eq_false_iff.mpr c2)
    rintro (z | z) <;> omega
theorem okR_Book_below (T:Txt P w K mg a)
    (G_Book_must_be_room:FnOk P w K mg base (CXE P w) k a.a_Book_must_be_room a.d_Book_must_be_room p_Book_must_be_room (spRoomE a.a_Book a.a_NoRoom)):FnOk P w K mg base (CXE P w) (k + 1) a.a_Book_below a.d_Book_below p_Book_below (spRoomR a.a_Book a.a_NoRoom):=by
  refine T.f_Book_below.F.okE sc_Book_below (fun vs H Q E h=>?_) (fun cdv A outer s H vs Q E hr h=>?_)
  · obtain ⟨b,os,rs,F,i,rfl,_⟩:=h
    rfl
  obtain ⟨b,os,rs,F,i,rfl,hB,bi,si,q⟩:=h
  refine ⟨_,(pss_cons (ps_expr (pe_methDX passE (pv 0) T.c_Book T.f_Book_must_be_room G_Book_must_be_room hr (pa_cons (pv 1) pa_nil)))
      pss_never),?_⟩
  obtain ⟨dx,_,_,_,_,_,_,_,h1⟩:=id hB
  exact ⟨_,rfl,b,dx,_,rfl,h1.hb,rfl,_,rfl,.inr ⟨b,os,rs,F,i,rfl,hB,bi,si,q⟩⟩
theorem okN_size_of (T:Txt P w K mg a) (G_Book_below:FnOk P w K mg base (CXE P w) k a.a_Book_below a.d_Book_below p_Book_below (spRoomR a.a_Book a.a_NoRoom)):FnOk P w K mg base (CXE P w) (k + 1) a.a_size_of a.d_size_of p_size_of (spRoomR a.a_Book a.a_NoRoom):=by
  refine T.f_size_of.F.okE sc_size_of (fun vs H Q E h=>?_) (fun cdv A outer s H vs Q E hr h=>?_)
  · obtain ⟨b,os,rs,F,i,rfl,_⟩:=h
    rfl
  obtain ⟨b,os,rs,F,i,rfl,hB,bi,si,q⟩:=h
  refine ⟨_,(pss_one (ps_ret (pe_callB call_len_seq rfl T.n_len bt_len (pa_cons (pe_methDX passE (pv 0) T.c_Book T.f_Book_below G_Book_below hr (pa_cons (pv 1) pa_nil)) pa_nil)))),?_⟩
  obtain ⟨dx,_,_,_,_,_,_,_,h1⟩:=id hB
  exact ⟨_,rfl,b,dx,_,rfl,h1.hb,rfl,_,rfl,b,os,rs,F,i,rfl,hB,bi,si,q⟩
theorem okN_all_sizes (T:Txt P w K mg a) (G_Book_must_be_room:FnOk P w K mg base (CXE P w) k a.a_Book_must_be_room a.d_Book_must_be_room p_Book_must_be_room (spRoomR a.a_Book a.a_NoRoom)):FnOk P w K mg base (CXE P w) (k + 1) a.a_all_sizes a.d_all_sizes p_all_sizes (spRoomR a.a_Book a.a_NoRoom):=by
  refine T.f_all_sizes.F.okE sc_all_sizes (fun vs H Q E h=>?_) (fun cdv A outer s H vs Q E hr h=>?_)
  · obtain ⟨b,os,rs,F,i,rfl,_⟩:=h
    rfl
  obtain ⟨b,os,rs,F,i,rfl,hB,bi,si,q⟩:=h
  refine ⟨_,(pss_cons (ps_expr (pe_methDX passE (pv 0) T.c_Book T.f_Book_must_be_room G_Book_must_be_room hr (pa_cons (pv 1) pa_nil)))
      pss_never),?_⟩
  obtain ⟨dx,_,_,_,_,_,_,_,h1⟩:=id hB
  exact ⟨_,rfl,b,dx,_,rfl,h1.hb,rfl,_,rfl,b,os,rs,F,i,rfl,hB,bi,si,q⟩
theorem okN_best (T:Txt P w K mg a) (hBL:BaseL mg base a.cL a.pL) (G_all_sizes:FnOk P w K mg base (CXE P w) (k + 2) a.a_all_sizes a.d_all_sizes p_all_sizes (spRoomR a.a_Book a.a_NoRoom)):FnOk P w K mg base (CXE P w) (k + 3) a.a_best a.d_best p_best (spRoomR a.a_Book a.a_NoRoom):=by
  refine T.f_best.F.okLE T.lam.code sc_best (fun vs H Q E h=>?_) (fun A outer s H vs Q E hr h=>?_)
  · obtain ⟨b,os,rs,F,i,rfl,_⟩:=h
    rfl
  obtain ⟨b,os,rs,F,i,rfl,hB,bi,si,q⟩:=h
  refine ⟨_,(pss_one (ps_ret (pe_minKey (K:=K) (lx := "entry") rfl rfl hr rfl T.n_min bt_min hBL rfl (pa_cons (pe_callDX passE G_all_sizes hr T.f_all_sizes (pa_cons (pv 0) (pa_cons (pv 1) pa_nil))) pa_nil) (fsc (by decide +kernel)) rfl rfl (fun _ _ _ _ _=>rfl) (fun _ _ _ _ _ _=>(pe_ix ix_tup (pv 0) pe_int (fun _ _=>rfl)))))),?_⟩
  exact ⟨_,rfl,_,rfl,b,os,rs,F,i,rfl,hB,bi,si,q⟩
theorem ok_law_met (T:Txt P w K mg a)
    (G_size_of:FnOk P w K mg base (CXE P w) k a.a_size_of a.d_size_of p_size_of (spRoomR a.a_Book a.a_NoRoom))
    (G_all_sizes:FnOk P w K mg base (CXE P w) k a.a_all_sizes a.d_all_sizes p_all_sizes (spRoomR a.a_Book a.a_NoRoom))
    (G_best:FnOk P w K mg base (CXE P w) k a.a_best a.d_best p_best (spRoomR a.a_Book a.a_NoRoom))
    (G_x_law_which:∀ ex,FnOkH P w K mg base ex k a.a_x_law_which a.d_x_law_which p_x_law_which (spWhichB K a.a_BookError (cs9 a) ex)):FnOk P w K mg base CX0 (k + 1) a.a_x_law_met a.d_x_law_met p_x_law_met (spMet60 a.a_Book):=by
  refine T.f_x_law_met.F.ok sc_x_law_met (fun vs H Q E h=>?_) (fun cdv A outer s H vs Q E hr h=>?_)
  · obtain ⟨m,b,os,rs,F,i,rfl,_⟩:=h
    rfl
  obtain ⟨m,b,os,rs,F,i,rfl,hB,bi,si,q⟩:=h
  refine ⟨_,(pss_cons (ps_setA 3 sc_x_law_met.nd pe_non)
      (pss_cons (ps_try (i:=4) rfl rfl (psxs_one (psx_if (pt_cmpR op_eq (pv 0) pe_int (nomark _)) (psxs_one (psx_set (i:=3) sc_x_law_met.nd rfl (Or.inl rfl) (pex_call G_size_of hr rfl T.f_size_of.m T.f_size_of.F.2 T.f_size_of.b .nil rfl (pa_cons (pv 1) (pa_cons (pv 2) pa_nil))))) (psxs_one (psx_if (pt_cmpR op_eq (pv 0) pe_int (nomark _)) (psxs_one (psx_set (i:=3) sc_x_law_met.nd rfl (Or.inl rfl) (pex_call G_all_sizes hr rfl T.f_all_sizes.m T.f_all_sizes.F.2 T.f_all_sizes.b .nil rfl (pa_cons (pv 1) (pa_cons (pv 2) pa_nil))))) (psxs_one (psx_set (i:=3) sc_x_law_met.nd rfl (Or.inl rfl) (pex_call G_best hr rfl T.f_best.m T.f_best.F.2 T.f_best.b .nil rfl (pa_cons (pv 1) (pa_cons (pv 2) pa_nil))))))))) (fun ex=>(pss_one (ps_set (i:=3) sc_x_law_met.nd rfl (Or.inl rfl) (pe_callH (G_x_law_which ex) (RoomH.of hr _) rfl rfl T.f_x_law_which.m T.f_x_law_which.F.2 T.f_x_law_which.b .nil (pa_cons (pv 4) pa_nil) (E:=E0))))) rfl T.m_BookError sc_x_law_met.nd rfl rfl)
      (pss_one (ps_ret (pv 3))))),?_⟩
  have nc:(cs9 a).Nodup:=T.xd.sublist (.cons _ (.cons₂ _ (.cons _ (List.Sublist.refl _))))
  refine ⟨_,rfl,rfl,_,rfl,ite2 (fun c=>?_) (fun c=>?_)⟩
  · exact ⟨_,rfl,_,rfl,b,os,rs,F,i,rfl,hB,bi,si,⟨a.a_NoRoom,rfl,exm_of T.xb T.xc_NoRoom,fun e' he=>⟨_,rfl,_,2,rfl,upd_same,T.xc_NoRoom,by decide,nd_of nc rfl,fun t l H'' g'' ht hl'=>⟨_,rfl,q t l H'' ((Same.new he _).trans g'') ht hl'⟩⟩⟩⟩
  refine ⟨_,rfl,rfl,_,rfl,ite2 (fun c=>?_) (fun c=>?_)⟩
  · exact ⟨_,rfl,_,rfl,b,os,rs,F,i,rfl,hB,bi,si,⟨a.a_NoRoom,rfl,exm_of T.xb T.xc_NoRoom,fun e' he=>⟨_,rfl,_,2,rfl,upd_same,T.xc_NoRoom,by decide,nd_of nc rfl,fun t l H'' g'' ht hl'=>⟨_,rfl,q t l H'' ((Same.new he _).trans g'') ht hl'⟩⟩⟩⟩
  · exact ⟨_,rfl,_,rfl,b,os,rs,F,i,rfl,hB,bi,si,⟨a.a_NoRoom,rfl,exm_of T.xb T.xc_NoRoom,fun e' he=>⟨_,rfl,_,2,rfl,upd_same,T.xc_NoRoom,by decide,nd_of nc rfl,fun t l H'' g'' ht hl'=>⟨_,rfl,q t l H'' ((Same.new he _).trans g'') ht hl'⟩⟩⟩⟩
theorem ok_law_book (T:Txt P w K mg a) (G_x_law_cell_at:FnOk P w K mg base CX0 (k + 1) a.a_x_law_cell_at a.d_x_law_cell_at p_x_law_cell_at (spCellF K)) (G_x_law_draw:FnOk P w K mg base CX0 (k + 1) a.a_x_law_draw a.d_x_law_draw p_x_law_draw spDraw) (G_x_law_sentence:FnOk P w K mg base CX0 (k + 1) a.a_x_law_sentence a.d_x_law_sentence p_x_law_sentence (spSentence K)) (G_Book_init:FnOk P w K mg base CX0 k a.a_Book_init a.d_Book_init p_Book_init (spBookInit (BookAt a.a_Book) K a.a_Book)) (G_Book_enter:FnOk P w K mg base CX0 (k + 1) a.a_Book_enter a.d_Book_enter p_Book_enter (spEnterH a.a_Book)):FnOk P w K mg base CX0 (k + 2) a.a_x_law_book a.d_x_law_book p_x_law_book (spBook60 a.a_Book K):=by
  refine T.f_x_law_book.F.ok sc_x_law_book (fun vs H Q E h=>?_) (fun cdv A outer s H vs Q E hr h=>?_)
  · obtain ⟨sc,ol,ns,os,rfl,_⟩:=h
    rfl
  obtain ⟨sc,ol,ns,os,rfl,hS,hol,ho,q⟩:=h
  refine ⟨_,(pss_cons (ps_setA 2 sc_x_law_book.nd (pe_make T.mk_Book G_Book_init hr rfl T.m_Book T.f_Book_init.b .nil pass0 (pa_cons (pv 1) pa_nil)))
      (pss_cons (ps_for PassesOwn.never rfl (pi_range1 rfl T.n_range (pa_cons pe_int pa_nil)) (pg_name (i:=3) sc_x_law_book.nd rfl (Or.inl rfl)) (pss_one (ps_expr (pe_methD (pv 2) T.c_Book T.f_Book_enter G_Book_enter hr (pa_cons (pe_callD G_x_law_sentence hr T.f_x_law_sentence (pa_cons (pv 0) (pa_cons (pe_op op_add pe_int (pe_op op_mul pe_int (pv 3))) (pa_cons (pe_op op_add pe_int (pe_callD G_x_law_draw hr T.f_x_law_draw (pa_cons (pe_callD G_x_law_cell_at hr T.f_x_law_cell_at (pa_cons (pv 0) (pa_cons pe_int pa_nil))) (pa_cons (pv 3) (pa_cons pe_int pa_nil))))) (pa_cons (pv 1) pa_nil))))) pa_nil)))))
      (pss_one (ps_ret (pv 2))))),?_⟩
  have L:=bookLike a.a_Book
  have o8:=ho.le
  refine ⟨_,rfl,fun bk dx hbk hdx hne=>⟨bk,dx,ol,os,rfl,upd_same,Ne.symm hne,?_,ho,fun H3 F0 keep hB hF=>⟨rfl,?_⟩⟩⟩
  · refine SqL.of ?_
    rw [upd_ne (ne_of_none hol hbk),upd_ne (ne_of_none hol hdx)]
    exact hol
  have L0:=LedH.made hbk hdx hne keep hB hF
  clear keep hF
  refine ⟨2,rfl,by decide,by decide,?_⟩
  refine for_range (lo:=0) (n:=2) (fun i σ H'=>∃ (rs:List Bdd.Rm) (f3:Option V),LedH a.a_Book H bk os (63 * i) H' rs F0∧σ = [some (.ref sc),some (.ref ol),some (.ref bk),f3]) ⟨[none,none],_,L0,rfl⟩ ?_ ?_
  · rintro i σ H4 hi ⟨rs,f3,L4,rfl⟩
    have ei:(0:Int) + (i:Int) = (i:Int):=by omega
    rw [ei]
    have hS4:=L4.same.seq hS
    have hol4:=L4.same _ _ hol
    obtain ⟨dx0,fs,hins,hm⟩:=L.ins L4.bk
    have len:=L4.len
    refine ⟨_,rfl,bk,dx0,fs,rfl,hins,hm _ (by decide +kernel),_,rfl,_,rfl,_,_,rfl,rfl,.inl ⟨by decide,by decide⟩,_,_,rfl,rfl,_,rfl,sc,ns,1,rfl,hS4,_,rfl,cellF ns 1,i,7,rfl,by omega,by decide,by decide,fun r r0 r7=>?_⟩
    refine ⟨_,_,rfl,rfl,_,rfl,sc,ol,ns,2 + 9 * i,(1 + r).toNat,os,?_,hS4,SqL.of hol4,ho.pos,o8,by omega,by omega,by omega,fun p1 H5 s1 g5 is1 in1 d1=>?_⟩
    · have e1:(2:Int) + 9 * (i:Int) = ((2 + 9 * i:Nat):Int):=by omega
      have e2:(1:Int) + r = (((1 + r).toNat:Nat):Int):=by omega
      show [V.ref sc,V.int (2 + 9 * (i:Int)),V.int (1 + r),V.ref ol] = [V.ref sc,V.int ((2 + 9 * i:Nat):Int),V.int (((1 + r).toNat:Nat):Int),V.ref ol]
      rw [e1,← e2]
    have L5:=L4.new g5
    have d7:s1.depth≤7:=by omega
    have cnt:s1.count + 2≤200:=by
      have h3:=Sn.count_depth s1
      have h4:2 ^ s1.depth≤2 ^ 7:=Nat.pow_le_pow_right (by decide) d7
      have h5:2 ^ 7 = 128:=rfl
      omega
    refine ⟨bk,p1,os,rs,F0,s1,rfl,L5.bk,by omega,is1,in1,by omega,by omega,fun k0 rs1 H6 aw tu hB6 gr mn hh=>?_⟩
    exact ⟨rs1,_,by rw [Nat.mul_succ]; exact L5.rise aw hB6 hh,rfl⟩
  · rintro σ H4 ⟨rs,f3,L4,rfl⟩
    have:=L4.len
    exact ⟨_,rfl,q bk rs F0 H4 L4.same L4.bk (by omega)⟩
end
end K60
namespace K60
open PySem L2 Sen
section
variable {P:Program} {w:World} {K:PySem.W.Frag} {mg:Str→Option Value} {base:Heap} {a:Ad} {k:Nat}
theorem ok_law (T:Txt P w K mg a)
    (G_x_law_cell_at:FnOk P w K mg base CX0 (k + 1) a.a_x_law_cell_at a.d_x_law_cell_at p_x_law_cell_at (spCellF K))
    (G_x_law_order:FnOk P w K mg base CX0 (k + 1) a.a_x_law_order a.d_x_law_order p_x_law_order spOrder)
    (G_x_law_book:FnOk P w K mg base CX0 (k + 1) a.a_x_law_book a.d_x_law_book p_x_law_book (spBook60 a.a_Book K))
    (G_Book_init:FnOk P w K mg base CX0 k a.a_Book_init a.d_Book_init p_Book_init (spBookInit (BookAt a.a_Book) K a.a_Book))
    (G_Book_enter:FnOk P w K mg base CX0 (k + 1) a.a_Book_enter a.d_Book_enter p_Book_enter (spEnterH a.a_Book))
    (G_Book_size:FnOk P w K mg base CX0 (k + 1) a.a_Book_size a.d_Book_size p_Book_size (spBookSize (BookAt a.a_Book)))
    (G_x_law_met:FnOk P w K mg base CX0 (k + 1) a.a_x_law_met a.d_x_law_met p_x_law_met (spMet60 a.a_Book))
    (G_x_law_is:FnOk P w K mg base CX0 (k + 1) a.a_x_law_is a.d_x_law_is p_x_law_is (spIsB K))
    (G_all_sizes:FnOk P w K mg base CX0 (k + 1) a.a_all_sizes a.d_all_sizes p_all_sizes (spAllSizes a.a_Book))
    (G_best:FnOk P w K mg base CX0 (k + 1) a.a_best a.d_best p_best (spBest a.a_Book a.pL tbL)) :
    FnOk P w K mg base CX0 (k + 2) a.a_law a.d_law p_law (spLawT K a.pL tbL):=by
  refine T.f_law.F.ok sc_law (fun vs H Q E h=>?_) (fun cdv A outer s H vs Q E hr h=>?_)
  · obtain ⟨a,ns,rfl,_⟩:=h
    rfl
  obtain ⟨sc,ns,rfl,hS,h63,hP,q⟩:=h
  have L:=bookLike a.a_Book
  refine cut0 ?_
  refine cutK (fun σ H=>H a.pL = some tbL∧∃ (ol bl b1 b2:Addr) (os1 os2:List Str) (rs1 rs2:List Bdd.Rm) (F1 F2:Foot) (far:Int),BookAt a.a_Book H b1 os1 rs1 F1∧rs1.length≤1000∧BookAt a.a_Book H b2 os2 rs2 F2∧rs2.length≤1000∧H bl = some (.lst [.ref b1,.ref b2])∧0≤far∧far < 10 ^ 40∧σ = [some (.ref sc),some (.ref ol),some (.ref bl),some (.int far),none,none,none,none,none,none,none]) (fun t z=>(pss_cons (ps_setA 1 sc_law.nd (pe_callD G_x_law_order hr T.f_x_law_order (pa_cons (pe_callD G_x_law_cell_at hr T.f_x_law_cell_at (pa_cons (pv 0) (pa_cons pe_int pa_nil))) (pa_cons pe_int pa_nil))))
      (pss_cons (ps_setA 2 sc_law.nd (pe_lst (pa_cons (pe_callD G_x_law_book hr T.f_x_law_book (pa_cons (pv 0) (pa_cons (pv 1) pa_nil))) (pa_cons (pe_make T.mk_Book G_Book_init hr rfl T.m_Book T.f_Book_init.b .nil pass0 (pa_cons (pe_strs (xs:=["f", "b", "e", "a", "d", "c"]) (by rfl)) pa_nil)) pa_nil))))
      (pss_cons (ps_setA 3 sc_law.nd (pe_op op_mod (pe_callD G_x_law_cell_at hr T.f_x_law_cell_at (pa_cons (pv 0) (pa_cons pe_int pa_nil))) (pe_op op_pow pe_int pe_int)))
      z)))) ?_ ?_
  · rintro u hu σ H ⟨rfl,rfl⟩
    refine ⟨_,rfl,sc,ns,0,rfl,hS,cellF ns 0,5,rfl,by decide,by decide,fun ol H0 os g0 hol0 ho o5=>?_⟩
    refine ⟨_,rfl,_,rfl,sc,ol,ns,os,rfl,g0.seq hS,hol0,ho,fun b1 rs1 F1 H1 g1 hB1 l1=>?_⟩
    refine ⟨by show 6≤sizeLine; decide,fun sl hsl=>?_⟩
    have g2:=Same.new hsl (.lst ((["f", "b", "e", "a", "d", "c"]:List Str).map V.str))
    have e2:upd H1 sl (.lst ((["f", "b", "e", "a", "d", "c"]:List Str).map V.str)) sl = some (.lst ((["f", "b", "e", "a", "d", "c"]:List Str).map V.str)):=upd_same
    generalize upd H1 sl (.lst ((["f", "b", "e", "a", "d", "c"]:List Str).map V.str)) = H2 at g2 e2
    have ho6:IsOrd (["f", "b", "e", "a", "d", "c"]:List Str):=⟨by decide +kernel,by decide +kernel,by decide⟩
    refine fun bk dx hbk hdx hne=>⟨bk,dx,sl,["f", "b", "e", "a", "d", "c"],rfl,upd_same,Ne.symm hne,?_,ho6,fun H3 F0 keep hB hF=>⟨rfl,?_⟩⟩
    · refine SqL.of ?_
      rw [upd_ne (ne_of_none e2 hbk),upd_ne (ne_of_none e2 hdx)]
      exact e2
    have L0:=LedH.made hbk hdx hne keep hB hF
    clear keep hF
    have g13:=g2.trans L0.same
    refine ⟨by show 2≤sizeLine; decide,fun bl hbl=>?_⟩
    have g4:=Same.new hbl (.lst [.ref b1,.ref bk])
    have e4:upd H3 bl (.lst [.ref b1,.ref bk]) bl = some (.lst [.ref b1,.ref bk]):=upd_same
    generalize upd H3 bl (.lst [.ref b1,.ref bk]) = H4 at g4 e4
    have g14:=g13.trans g4
    have g04:=g0.trans (g1.trans g14)
    refine ⟨_,rfl,sc,ns,21,rfl,g04.seq hS,_,_,rfl,rfl,⟨by decide,by decide,by decide⟩,_,_,rfl,rfl,(by show (0:Int) < 10 ^ (40:Int).toNat; decide),?_⟩
    refine hu _ _ ⟨g04 _ _ hP,ol,bl,b1,bk,os,_,rs1,_,F1,F0,_,L.same hB1 g14,l1,L.same hB g4,by decide,e4,Int.emod_nonneg _ (by decide),Int.emod_lt_of_pos _ (by decide),rfl⟩
  refine cutK (fun σ H=>H a.pL = some tbL∧∃ (f1 f2 f3 f4 f8 f9 f10:Option V),σ = [some (.ref sc),f1,f2,f3,f4,none,none,none,f8,f9,f10]) (fun t z=>(pss_cons (ps_for PassesOwn.never rfl (pi_list (pv 2)) (pg_name (i:=4) sc_law.nd rfl (Or.inl rfl)) (pss_cons (ps_setA 8 sc_law.nd (pe_meth0D (pv 4) T.c_Book T.f_Book_size G_Book_size hr))
      (pss_cons (ps_for PassesOwn.never rfl (pi_list (pe_lst (pa_cons (pe_un un_neg pe_int) (pa_cons (pv 8) (pa_cons (pe_op op_sub (pe_un un_neg pe_int) (pv 3)) (pa_cons (pe_op op_add (pv 8) (pv 3)) pa_nil)))))) (pg_name (i:=9) sc_law.nd rfl (Or.inl rfl)) (pss_one (ps_for PassesOwn.never rfl (pi_range1 rfl T.n_range (pa_cons pe_int pa_nil)) (pg_name (i:=10) sc_law.nd rfl (Or.inl rfl)) (pss_one (ps_if (pt_not (pt_truth (pe_callD G_x_law_is hr T.f_x_law_is (pa_cons (pe_callD G_x_law_met hr T.f_x_law_met (pa_cons (pv 10) (pa_cons (pv 4) (pa_cons (pv 9) pa_nil)))) (pa_cons pe_str pa_nil))) (fun _=>rfl))) (pss_one (ps_ret pe_bl)) pss_nil)))))
      (pss_one (ps_if (pt_cmpR op_ne (pe_meth0D (pv 4) T.c_Book T.f_Book_size G_Book_size hr) (pv 8) (nomark _)) (pss_one (ps_ret pe_bl)) pss_nil)))))
      z)) ?_ ?_
  · rintro u hu σ H ⟨hP1,ol,bl,b1,b2,os1,os2,rs1,rs2,F1,F2,far,hB1,l1,hB2,l2,hbl,f0,f40,rfl⟩
    refine ⟨_,rfl,bl,rfl,⟨_,SqL.of hbl⟩,?_⟩
    refine for_list (xs:=[.ref b1,.ref b2]) (fun i σ H'=>Same H H'∧∃ (f4 f8 f9 f10:Option V),σ = [some (.ref sc),some (.ref ol),some (.ref bl),some (.int far),f4,none,none,none,f8,f9,f10]) ⟨Same.refl _,_,_,_,_,rfl⟩ (fun i σ H' _ ⟨g,_⟩=>SqL.of (g _ _ hbl)) ?_ (fun σ H' ⟨g,f4,f8,f9,f10,e⟩=>hu _ _ ⟨g _ _ hP1,_,_,_,_,_,_,_,e⟩)
    rintro i x σ H1 hx ⟨g1,f4,f8,f9,f10,rfl⟩
    obtain ⟨bk,os,rs,F,rfl,hB,len⟩:∃ (bk:Addr) (os:List Str) (rs:List Bdd.Rm) (F:Foot),x = .ref bk∧BookAt a.a_Book H1 bk os rs F∧rs.length≤1000:=by
      match i,hx with
      | 0,hx=>cases hx; exact ⟨b1,os1,rs1,F1,rfl,L.same hB1 g1,l1⟩
      | 1,hx=>cases hx; exact ⟨b2,os2,rs2,F2,rfl,L.same hB2 g1,l2⟩
    obtain ⟨dx,fs,hins,hm⟩:=L.ins hB
    refine ⟨_,rfl,bk,dx,fs,rfl,hins,hm _ (by decide +kernel),bk,os,rs,F,rfl,hB,fun H2 g2=>?_⟩
    have sm:∀ i:Int,i.natAbs≤2 * 10 ^ 40→Small i:=fun i h=>by
      show i.natAbs.log2 < 1920
      rcases Nat.eq_zero_or_pos i.natAbs with z | z
      · rw [z]; decide
      · exact (Nat.log2_lt (by omega)).mpr (Nat.lt_of_le_of_lt h (by decide +kernel))
    refine ⟨_,rfl,_,rfl,_,rfl,_,rfl,_,_,rfl,rfl,_,rfl,_,rfl,_,_,rfl,rfl,by show 4≤sizeLine; decide,fun rl hrl=>?_⟩
    have g3:=Same.new hrl (.lst [V.int (-1),V.int (rs.length:Nat),V.int (-1 - far),V.int ((rs.length:Nat) + far)])
    have e3:upd H2 rl (.lst [V.int (-1),V.int (rs.length:Nat),V.int (-1 - far),V.int ((rs.length:Nat) + far)]) rl = some _:=upd_same
    generalize upd H2 rl (.lst [V.int (-1),V.int (rs.length:Nat),V.int (-1 - far),V.int ((rs.length:Nat) + far)]) = H3 at g3 e3
    have g23:=g2.trans g3
    refine ⟨rl,rfl,⟨_,SqL.of e3⟩,?_⟩
    refine for_list (xs:=[V.int (-1),V.int (rs.length:Nat),V.int (-1 - far),V.int ((rs.length:Nat) + far)]) (fun j σ H'=>Same H3 H'∧∃ (f9 f10:Option V),σ = [some (.ref sc),some (.ref ol),some (.ref bl),some (.int far),some (.ref bk),none,none,none,some (.int (rs.length:Nat)),f9,f10]) ⟨Same.refl _,_,_,rfl⟩ (fun j σ H' _ ⟨g,_⟩=>SqL.of (g _ _ e3)) ?_ ?_
    · rintro j y σ H4 hy ⟨g4,f9,f10,rfl⟩
      obtain ⟨r,rfl,br,sr⟩:∃ r:Int,y = .int r∧Bad rs.length r∧r.natAbs≤2 * 10 ^ 40:=by
        have p40:(10:Int) ^ 40 = 10000000000000000000000000000000000000000:=by decide
        have q40:2 * 10 ^ 40 = 20000000000000000000000000000000000000000:=by decide
        rw [p40] at f40
        rw [q40]
        match j,hy with
        | 0,hy=>cases hy; exact ⟨_,rfl,.inl (by decide),by decide⟩
        | 1,hy=>cases hy; exact ⟨_,rfl,.inr (Int.le_refl _),by omega⟩
        | 2,hy=>cases hy; exact ⟨_,rfl,.inl (by omega),by omega⟩
        | 3,hy=>cases hy; exact ⟨_,rfl,.inr (by omega),by omega⟩
      refine ⟨3,rfl,by decide,by decide,?_⟩
      refine for_range (lo:=0) (n:=3) (fun m σ H'=>Same H3 H'∧∃ (f10:Option V),σ = [some (.ref sc),some (.ref ol),some (.ref bl),some (.int far),some (.ref bk),none,none,none,some (.int (rs.length:Nat)),some (.int r),f10]) ⟨g4,_,rfl⟩ ?_ (fun σ H' ⟨g,f10,e⟩=>⟨g,_,_,e⟩)
      rintro m σ H5 hm' ⟨g5,f10,rfl⟩
      refine ⟨_,rfl,_,rfl,_,rfl,_,bk,os,rs,F,r,rfl,L.same hB (g23.trans g5),br,sm r sr,fun t l H6 g6 ht hl=>?_⟩
      refine ⟨t,l,"room", rfl,ht,SqL.of hl,fun H7 g7=>?_⟩
      exact ⟨_,rfl,iteF ⟨g5.trans (g6.trans g7),_,rfl⟩⟩
    · rintro σ H4 ⟨g4,f9,f10,rfl⟩
      have hB4:=L.same hB (g23.trans g4)
      obtain ⟨dx4,fs4,hins4,hm4⟩:=L.ins hB4
      refine ⟨_,rfl,bk,dx4,fs4,rfl,hins4,hm4 _ (by decide +kernel),bk,os,rs,F,rfl,hB4,fun H5 g5=>?_⟩
      refine ⟨_,rfl,rfl,_,rfl,ifB (by rw [decide_eq_true rfl]; rfl) ?_⟩
      exact ⟨g1.trans (g23.trans (g4.trans g5)),_,_,_,_,rfl⟩
  refine ⟨_,(pss_cons (ps_setA 5 sc_law.nd (pe_make T.mk_Book G_Book_init hr rfl T.m_Book T.f_Book_init.b .nil pass0 (pa_cons (pe_strs (xs:=["e", "a", "d", "b", "c"]) (by rfl)) pa_nil)))
      (pss_cons (ps_setA 6 sc_law.nd (pe_methD (pv 5) T.c_Book T.f_Book_enter G_Book_enter hr (pa_cons (pe_tup (pa_cons pe_str (pa_cons (pe_tup (pa_cons pe_str (pa_cons pe_str pa_nil))) (pa_cons (pe_tup (pa_cons pe_str (pa_cons pe_str pa_nil))) pa_nil)))) pa_nil)))
      (pss_cons (ps_setA 7 sc_law.nd (pe_callD G_all_sizes hr T.f_all_sizes (pa_cons (pv 5) (pa_cons (pv 6) pa_nil))))
      (pss_cons (ps_if (pt_cmpR (op_neD rfl (hu8 hr)) (pe_callD G_best hr T.f_best (pa_cons (pv 5) (pa_cons (pv 6) pa_nil))) (pe_tup (pa_cons (pe_strs (xs:=["a", "b", "c", "d", "e"]) (by rfl)) (pa_cons pe_int pa_nil))) (nomark _)) (pss_one (ps_ret pe_bl)) pss_nil)
      (pss_one (ps_ret (pe_and (pe_cmpR op_eq (pe_callB call_len_seq rfl T.n_len bt_len (pa_cons (pv 7) pa_nil)) pe_int (nomark _)) (pe_and (pe_cmpR (op_eqD rfl (hu8 hr)) (pv 7) (pe_callB (call_sorted_upT (K:=K) rfl (hu9 hr)) rfl T.n_sorted bt_sorted (pa_cons (pv 7) pa_nil)) (nomark _)) (pe_one (pe_cmpR (op_eqD rfl (hu8 hr)) (pe_lc0 (osc:=defScope S_law) (js:=[]) rfl (by show LcOk _ _ "pair" []; exact lco (by decide +kernel)) rfl (pi_list (pv 7)) (by show ∀ j∈([]:List Nat),j < 11; decide) (fun cl C s₂ H₂ fp=>(pe_ix (ix_tupK (K:=K) rfl) (pv 0) pe_int (fun _ _=>rfl)))) (pe_op op_mulL (pe_lst (pa_cons pe_int pa_nil)) pe_int) (nomark _))))))))))),?_⟩
  rintro σ H ⟨hP1,f1,f2,f3,f4,f8,f9,f10,rfl⟩
  refine ⟨by show 5≤sizeLine; decide,fun sl hsl=>?_⟩
  have g2:=Same.new hsl (.lst (o60.map V.str))
  have e2:upd H sl (.lst (o60.map V.str)) sl = some (.lst (o60.map V.str)):=upd_same
  generalize hH2:upd H sl (.lst (o60.map V.str)) = H2 at g2 e2
  have ho5:IsOrd o60:=⟨by decide +kernel,by decide +kernel,by decide⟩
  refine fun bk dx hbk hdx hne=>?_
  rw [show upd H sl (.lst ((["e", "a", "d", "b", "c"]:List Str).map V.str)) = H2 from hH2] at hbk hdx ⊢
  refine ⟨bk,dx,sl,o60,rfl,upd_same,Ne.symm hne,?_,ho5,fun H3 F0 keep hB hF=>⟨rfl,?_⟩⟩
  · refine SqL.of ?_
    rw [upd_ne (ne_of_none e2 hbk),upd_ne (ne_of_none e2 hdx)]
    exact e2
  have L0:=LedH.made hbk hdx hne keep hB hF
  clear keep hF
  obtain ⟨dx0,fs,hins,hm⟩:=L.ins L0.bk
  refine ⟨_,rfl,bk,dx0,fs,rfl,hins,hm _ (by decide +kernel),by show 2≤sizeLine; decide,fun pa hpa=>⟨by show 2≤sizeLine; decide,fun pb hpb=>⟨by show 3≤sizeLine; decide,fun pc hpc=>?_⟩⟩⟩
  have g4:=(Same.new hpa (.tup [.str "mark", .str "a"])).trans ((Same.new hpb (.tup [.str "mark", .str "b"])).trans (Same.new hpc (.tup [.str "and", .ref pa,.ref pb])))
  have ea:upd (upd (upd H3 pa (.tup [.str "mark", .str "a"])) pb (.tup [.str "mark", .str "b"])) pc (.tup [.str "and", .ref pa,.ref pb]) pa = some (.tup [.str "mark", .str "a"]):=((Same.new hpb _).trans (Same.new hpc _)) _ _ upd_same
  have eb:upd (upd (upd H3 pa (.tup [.str "mark", .str "a"])) pb (.tup [.str "mark", .str "b"])) pc (.tup [.str "and", .ref pa,.ref pb]) pb = some (.tup [.str "mark", .str "b"]):=(Same.new hpc _) _ _ upd_same
  have ec:upd (upd (upd H3 pa (.tup [.str "mark", .str "a"])) pb (.tup [.str "mark", .str "b"])) pc (.tup [.str "and", .ref pa,.ref pb]) pc = some (.tup [.str "and", .ref pa,.ref pb]):=upd_same
  generalize upd (upd (upd H3 pa (.tup [.str "mark", .str "a"])) pb (.tup [.str "mark", .str "b"])) pc (.tup [.str "and", .ref pa,.ref pb]) = H4 at g4 ea eb ec
  have L4:=L0.new g4
  refine ⟨bk,pc,o60,_,F0,.b2 0 (.mk "a") (.mk "b"),rfl,L4.bk,by decide,⟨pa,pb,ec,ea,eb⟩,⟨show ("a" : Str)∈o60 by decide +kernel,show ("b" : Str)∈o60 by decide +kernel⟩,by decide,by decide,fun k0 rs H5 aw tu hB5 gr mn hh=>?_⟩
  have L5:=L4.rise aw hB5 hh
  have BK:=L.bk hB5
  have ef:Bdd.yes rs k0 = f60:=funext fun r=>by
    rw [mn.2 r]
    show (r (ix o60 "a") && r (ix o60 "b")) = (r 1 && r 3)
    rw [show ix o60 "a" = 1 by decide +kernel,show ix o60 "b" = 3 by decide +kernel]
  have hP5:=(g2.trans L5.same) _ _ hP1
  have ss60:∀ ss:List Str,ss.Perm o60→PyProof.Rows.sortedS ss = true→ss = s60:=fun ss pm so=>sorted_eq (fun x hx=>ho5.mem x (pm.mem_iff.mp hx)) (pm.trans (show o60.Perm s60 by decide +kernel)) so so60
  refine ⟨_,rfl,_,rfl,bk,o60,rs,F0,k0,rfl,hB5,mn.1,by decide,fun tl H6 ts ss g6 ftl pm so htl pp=>?_⟩
  obtain rfl:=ss60 ss pm so
  rw [ef] at pp
  refine ⟨_,rfl,_,rfl,bk,o60,rs,F0,k0,rfl,L.same hB5 g6,mn.1,by decide,g6 _ _ hP5,fun t p o ss2 H7 g7 pm2 so2 fst ft fp ht hp=>?_⟩
  obtain rfl:=ss60 ss2 pm2 so2
  rw [ef] at fst ht
  have eo:o = s60:=by
    refine fst.one ⟨0,fst60,fun j o' hj=>⟨?_,fun h=>absurd h (Nat.not_lt_zero _)⟩⟩
    rw [szo60 (List.mem_of_getElem? fst60),szo60 (List.mem_of_getElem? hj)]
    exact Nat.le_refl _
  subst eo
  rw [szo60 (List.mem_of_getElem? fst60)] at ht
  have pp4:Paired (fun t o=>∃ q,H5 t = none∧H6 t = some (.tup [.ref q,.int 4])∧H6 q = some (.lst (o.map V.str))) ts (prm 5 s60):=by
    refine pd_ext (pd_len pp) fun j x y h1 h2=>?_
    obtain ⟨o',h3,f1,q',f2,h4,h5⟩:=pd_at pp h1
    have h2':(prm o60.length s60)[j]? = some y:=h2
    rw [h2'] at h3
    cases h3
    refine ⟨q',f1,?_,h5⟩
    rw [h4,szo60 (List.mem_of_getElem? h2)]
    rfl
  have lts:ts.length = 120:=(pd_len pp4).trans len60
  refine ⟨by show 5≤sizeLine; decide,fun pl hpl=>⟨by show 2≤sizeLine; decide,fun pt hpt=>?_⟩⟩
  have g8:=(Same.new hpl (.lst (s60.map V.str))).trans (Same.new hpt (.tup [.ref pl,.int 4]))
  have e8:upd (upd H7 pl (.lst (s60.map V.str))) pt (.tup [.ref pl,.int 4]) pl = some (.lst (s60.map V.str)):=(Same.new hpt _) _ _ upd_same
  have e9:upd (upd H7 pl (.lst (s60.map V.str))) pt (.tup [.ref pl,.int 4]) pt = some (.tup [.ref pl,.int 4]):=upd_same
  refine ⟨true,fun y=>absurd y.1 Bool.false_ne_true,eqT60 (n:=6) (SqT.of (g8 _ _ ht)) (SqT.of e9) (SqL.of (g8 _ _ hp)) (SqL.of e8),_,rfl,iteF ?_⟩
  have g68:=g7.trans g8
  have htl8:=g68 _ _ htl
  refine ⟨_,rfl,tl,_,rfl,.inl (SqL.of htl8),rfl,_,rfl,?_⟩
  rw [List.length_map,lts]
  rw [show decide (V.int ((120:Nat):Int) = V.int 120) = true from decide_eq_true rfl]
  refine iteT ?_
  refine ⟨_,rfl,_,rfl,tl,ts,prm 5 s60,rfl,SqL.of htl8,pd_imp (fun _ _ ⟨q',_,h1,h2⟩=>⟨q',_,g68 _ _ h1,g68 _ _ h2⟩) pp4,fun m h1 h2=>ups60 h1 (by rw [len60] at h2; exact h2),by rw [len60]; decide,fun nl hnl=>?_⟩
  have g9:=g68.trans (Same.new hnl (.lst (ts.map V.ref)))
  have e10:upd (upd (upd H7 pl (.lst (s60.map V.str))) pt (.tup [.ref pl,.int 4])) nl (.lst (ts.map V.ref)) nl = some (.lst (ts.map V.ref)):=upd_same
  have htl9:=g9 _ _ htl
  refine ⟨true,fun y=>absurd y.1 Bool.false_ne_true,eqR60 (n:=5) (SqL.of htl9) (SqL.of e10) (fun t m=>by
    obtain ⟨j,hj⟩:=List.mem_iff_getElem?.mp m
    obtain ⟨o',h3,q',_,h4,h5⟩:=pd_at pp4 hj
    exact ⟨q',o',SqT.of (g9 _ _ h4),SqL.of (g9 _ _ h5)⟩),_,rfl,iteT ?_⟩
  refine ⟨_,rfl,tl,rfl,⟨_,SqL.of htl9⟩,?_⟩
  refine lc_listC (xs:=ts.map V.ref) (fun i ys H'=>Same (upd (upd (upd H7 pl (.lst (s60.map V.str))) pt (.tup [.ref pl,.int 4])) nl (.lst (ts.map V.ref))) H'∧ys = List.replicate i (.int 4)) ⟨Same.refl _,rfl⟩ (by rw [List.length_map,lts]; decide) ?_ ?_ ?_
  · rintro i ys H' hi ⟨gg,rfl⟩
    exact ⟨SqL.of (gg _ _ htl9),by rw [List.length_replicate]; exact Nat.le_refl _⟩
  · rintro i v ys H' Q0 hv ⟨gg,rfl⟩ hQ
    rw [List.getElem?_map] at hv
    cases hj:ts[i]? with
    | none=>rw [hj] at hv; cases hv
    | some t' =>
      rw [hj] at hv
      cases hv
      obtain ⟨o',h3,q',_,h4,h5⟩:=pd_at pp4 hj
      refine ⟨_,rfl,t',_,1,_,rfl,rfl,SqT.of (gg _ _ (g9 _ _ h4)),rfl,hQ _ _ ⟨gg,?_⟩⟩
      rw [List.replicate_succ']
  rintro ys HA al ⟨gA,rfl⟩ hal
  rw [List.length_map,lts]
  have ga:=Same.new hal (.lst (List.replicate 120 (.int 4)))
  have ea':upd HA al (.lst (List.replicate 120 (.int 4))) al = some (.lst (List.replicate 120 (.int 4))):=upd_same
  generalize upd HA al (.lst (List.replicate 120 (.int 4))) = HB at ga ea'
  refine ⟨by show 1≤sizeLine; decide,fun zl hzl=>?_⟩
  have gz:=Same.new hzl (.lst [V.int 4])
  refine ⟨zl,.int 4,120,rfl,rfl,upd_same,by decide,fun ml hml=>?_⟩
  have gm:=Same.new hml (.lst (List.replicate 120 (V.int 4)))
  exact ⟨true,fun y=>absurd y.1 Bool.false_ne_true,eq_sameB (n:=7) (SqL.of ((gz.trans gm) _ _ ea')) (SqL.of upd_same) (fun x hx=>by rw [(List.mem_replicate.mp hx).2]; rfl),q _⟩
end
end K60
namespace K60
open PySem L2 Sen
section
variable {P:Program} {w:World} {K:PySem.W.Frag} {mg:Str→Option Value} {base:Heap} {a:Ad} {k:Nat}
theorem law_all (T:Txt P w K mg a) (base:Heap) (hBL:BaseL mg base a.cL a.pL):FnOk P w K mg base CX0 60 a.a_law a.d_law p_law (spLawT K a.pL tbL):=by
  have cell:FnOk P w K mg base CX0 1 a.a_x_law_cell_at a.d_x_law_cell_at p_x_law_cell_at (spCellAt K):=ok_cell_at (k:=0) T
  have draw:FnOk P w K mg base CX0 1 a.a_x_law_draw a.d_x_law_draw p_x_law_draw spDraw:=ok_draw (k:=0) T
  have order:=ok_order (k:=1) T draw
  have sentence:=ok_sentence (k:=1) T cell draw
  have allRows:FnOk P w K mg base CX0 2 a.a_all_rows a.d_all_rows p_all_rows spAllRows:=ok_all_rows (k:=1) T
  have rowsWith:FnOk P w K mg base CX0 1 a.a_rows_with a.d_rows_with p_rows_with spRowsWith:=ok_rows_with (k:=0) T
  have flipped:=ok_flipped (k:=1) T rowsWith
  have isMark:FnOk P w K mg base CX0 1 a.a_is_mark a.d_is_mark p_is_mark spIsMark:=ok_is_mark (k:=0) T
  have isOrder:=ok_is_order (k:=1) T isMark
  have lettersOf:FnOk P w K mg base CX0 1 a.a_letters_of a.d_letters_of p_letters_of spLettersOf:=ok_letters_of (k:=0) T
  have partsOf:FnOk P w K mg base CX0 1 a.a_parts_of a.d_parts_of p_parts_of spPartsOf:=ok_parts_of (k:=0) T
  have partsOfAll:=ok_parts_of_all (k:=1) T partsOf
  have shaped:=ok_is_shaped (k:=1) T isMark lettersOf partsOf
  have isSen:=ok_is_sentence (k:=2) T shaped partsOfAll
  have mustOrder:=ok_must_be_order (k:=2) T isOrder
  have mustSen:=ok_must_be_sentence (k:=3) T isSen
  have tuplesIn:=ok_tuples_in (k:=2) T partsOfAll
  have lettersIn:=ok_letters_in (k:=3) T tuplesIn (lettersOf.mono (by decide))
  have mustMark:FnOk P w K mg base CX0 1 a.a_must_have_mark a.d_must_have_mark p_must_have_mark (spMustMark K):=ok_must_have_mark (k:=0) T
  have mustMarks:=ok_must_have_marks (k:=4) T lettersIn (mustMark.mono (by decide))
  have two:FnOk P w K mg base CX0 2 a.a_table_of_two a.d_table_of_two p_table_of_two spTwo:=ok_table_of_two (k:=1) T
  have table:=ok_table_of (k:=2) T allRows (rowsWith.mono (by decide)) flipped (partsOf.mono (by decide)) two 24
  have heldAt:=ok_held_at (k:=2) T (rowsWith.mono (by decide)) flipped
  have hangs:=ok_hangs_on (k:=2) T flipped
  have first:=ok_first_place (k:=3) T hangs
  have roomWith:=ok_Book_room_withH (k:=4) T first (heldAt.mono (by decide)) 9
  have enter:=ok_Book_enterH (k:=26) T (mustSen.mono (by decide)) (mustMarks.mono (by decide)) table (roomWith.mono (by decide))
  have init:=ok_Book_init (k:=3) T mustOrder (allRows.mono (by decide))
  have mbr:FnOk P w K mg base CX0 1 a.a_Book_must_be_room a.d_Book_must_be_room p_Book_must_be_room (spMustRoom a.a_Book):=ok_Book_must_be_room (k:=0) T
  have tat:FnOk P w K mg base CX0 1 a.a_Book_table_at a.d_Book_table_at p_Book_table_at (spTableAt a.a_Book):=ok_Book_table_at (k:=0) T
  have ordr:FnOk P w K mg base CX0 1 a.a_Book_order a.d_Book_order p_Book_order (spBookOrder (BookAt a.a_Book)):=ok_Book_order (k:=0) T
  have tat':=tat.mono (show 1≤13 by decide)
  have ordr':=ordr.mono (show 1≤13 by decide)
  have plc:FnOk P w K mg base CX0 1 a.a_Book_place_of a.d_Book_place_of p_Book_place_of (spPlaceOf a.a_Book):=ok_Book_place_of (k:=0) T
  have goi:FnOk P w K mg base CX0 1 a.a_Book_going a.d_Book_going p_Book_going (spGoing a.a_Book):=ok_Book_going (k:=0) T
  have cellF:FnOk P w K mg base CX0 1 a.a_x_law_cell_at a.d_x_law_cell_at p_x_law_cell_at (spCellF K):=ok_cell_f (k:=0) T
  have below:=ok_Book_below5 (k:=1) T mbr goi
  have sizeOf:=ok_size_of5x (k:=2) T below
  have size:FnOk P w K mg base CX0 1 a.a_Book_size a.d_Book_size p_Book_size (spBookSize (BookAt a.a_Book)):=ok_Book_size (k:=0) T
  have aorders:=ok_all_orders (k:=0) (base:=base) (K:=K) T 6
  have room:=ok_Book_room (k:=1) T mbr plc goi
  have withoutF:FnOk P w K mg base CX0 1 a.a_without a.d_without p_without spWithout:=ok_without (k:=0) T
  have chosenF:=ok_chosen (k:=1) T withoutF
  have roomIn:=ok_room_inH (k:=13) T (room.mono (by decide)) (ordr.mono (by decide)) (rowsWith.mono (by decide)) (chosenF.mono (by decide)) tat' roomWith
  have roomsIn:=ok_rooms_inH (k:=14) T roomIn
  have sizeIn:=ok_size_inH (k:=30) T (init.mono (by decide)) (below.mono (by decide)) (roomsIn.mono (by decide)) (sizeOf.mono (by decide))
  have allSizes:=ok_all_sizes (k:=32) T (mbr.mono (by decide)) (ordr.mono (by decide)) (aorders.mono (by decide)) sizeIn
  have best:=ok_best (k:=31) (K:=K) T hBL allSizes
  have which:∀ ex,FnOkH P w K mg base ex 57 a.a_x_law_which a.d_x_law_which p_x_law_which (spWhichB K a.a_BookError (cs9 a) ex):=fun ex=>ok_law_which (k:=56) T ex
  have isB:FnOk P w K mg base CX0 1 a.a_x_law_is a.d_x_law_is p_x_law_is (spIsB K):=ok_law_is (k:=0) T
  have mbrR:FnOk P w K mg base (CXE P w) 1 a.a_Book_must_be_room a.d_Book_must_be_room p_Book_must_be_room (spRoomR a.a_Book a.a_NoRoom):=okR_Book_must_be_room (k:=0) T
  have mbrE:FnOk P w K mg base (CXE P w) 1 a.a_Book_must_be_room a.d_Book_must_be_room p_Book_must_be_room (spRoomE a.a_Book a.a_NoRoom):=(mbr.lift (CX:=CXE P w)).orE mbrR
  have belowR:=okR_Book_below (k:=1) T mbrE
  have szR:=okN_size_of (k:=2) (K:=K) T belowR
  have allR:=okN_all_sizes (k:=1) (K:=K) T mbrR
  have bestR:=okN_best (k:=0) (K:=K) T hBL allR
  have met:=ok_law_met (k:=57) T (szR.mono (by decide)) (allR.mono (by decide)) (bestR.mono (by decide)) which
  have lbook:=ok_law_book (k:=27) T (cellF.mono (by decide)) (draw.mono (by decide)) (sentence.mono (by decide)) (init.mono (by decide)) (enter.mono (by decide))
  exact ok_law (k:=58) T (cellF.mono (by decide)) (order.mono (by decide)) (lbook.mono (by decide)) (init.mono (by decide)) (enter.mono (by decide)) (size.mono (by decide)) (met.mono (by decide)) (isB.mono (by decide)) (allSizes.mono (by decide)) (best.mono (by decide))
end
end K60
namespace PySem.W.Fast
def tw16038877179363613336:Nat:=0
def tw14750977111609200717:Nat:=0
def tw12903978946615584541:Nat:=0
def tw8058678263800214019:Nat:=0
def tw14283764744866096924:Nat:=0
def tw10198490978512429395:Nat:=0
def tw3803690628385785669:Nat:=0
def tw8037894134462408981:Nat:=0
def tw2497432182441644529:Nat:=0
def tw7549661636757087638:Nat:=0
def tw8682251761020192188:Nat:=0
def tw7586975720725813933:Nat:=0
def tw15886128803925077206:Nat:=0
def tw9353130541413057087:Nat:=0
def tw17999367912953617757:Nat:=0
def tw16046799010641291375:Nat:=0
def tw17690827012177089250:Nat:=0
def tw17998184613064246218:Nat:=0
def tw2431997999258417646:Nat:=0
def tw13294681071552440316:Nat:=0
def tw10045182050670861231:Nat:=0
def tw85747060710657475:Nat:=0
def tw3456675897979516746:Nat:=0
def tw17637081252389324052:Nat:=0
def tw12605890970739068825:Nat:=0
def tw12177221954316449072:Nat:=0
def tw10446441663390892706:Nat:=0
def tw17772466630898752890:Nat:=0
def tw15189616340482534086:Nat:=0
def tw5079942958678726813:Nat:=0
def tw10492135121129870841:Nat:=0
def tw17026876192788458473:Nat:=0
def tw14978313690430343230:Nat:=0
def tw13727426277917990206:Nat:=0
def tw5673940569544881050:Nat:=0
def tw4221869967470593845:Nat:=0
def tw14434496891920048111:Nat:=0
def tw1587204061157766142:Nat:=0
def tw8129782881823935279:Nat:=0
def tw3716051864613104538:Nat:=0
def tw9269956007991077809:Nat:=0
def tw6593758800718342754:Nat:=0
def tw8977860987497787096:Nat:=0
def tw10308162166900275661:Nat:=0
def tw16262098539527967884:Nat:=0
def tw2413190759222696014:Nat:=0
def tw11763532478305907704:Nat:=0
def tw13097235112258132254:Nat:=0
def tw16746158734069730258:Nat:=0
def tw1140528814545775015:Nat:=0
def tw7163552317824725179:Nat:=0
def tw7617349223938668718:Nat:=0
def tw13178028621110287858:Nat:=0
def tw16549476049400053678:Nat:=0
def tw7232507989238340090:Nat:=0
def tw2290799400416060931:Nat:=0
def tw10220832626050917049:Nat:=0
def tw16285556463723077279:Nat:=0
def tw7872568985165537291:Nat:=0
def tw8104501397816283726:Nat:=0
def tw11342846998491862616:Nat:=0
def tw6311945350633170560:Nat:=0
def tw7868297476944686647:Nat:=0
def tw5204585382217646574:Nat:=0
def tw2266817302594738322:Nat:=0
def tw17995935566953162003:Nat:=0
def tw16786501548387584656:Nat:=0
def tw7896988657390881863:Nat:=0
def tw535111246154085124:Nat:=0
def tw2641253965074066185:Nat:=0
def tw204990275321196696:Nat:=0
def tw9804693359957980533:Nat:=0
def tw7963713075979623493:Nat:=0
def tw4278874386889701401:Nat:=0
def tw5417410521421870343:Nat:=0
def tw4055487069698911437:Nat:=0
def tw7315184774717421142:Nat:=0
def tw3910584724539590639:Nat:=0
def tw4174922850458109578:Nat:=0
def tw10443127689222574494:Nat:=0
def tw12931672884237007260:Nat:=0
def tw8457187302123387866:Nat:=0
def tw5009112545793671977:Nat:=0
def tw6257536639307562699:Nat:=0
def tw10199923607935294348:Nat:=0
def tw16201037807112074830:Nat:=0
def tw15720179290448141066:Nat:=0
def tw4036274407013777832:Nat:=0
def tw11855699106089169888:Nat:=0
def tw6588700945617965604:Nat:=0
def tw10324044725035899294:Nat:=0
def tw13556228640550286718:Nat:=0
def tw13953441103133445488:Nat:=0
def tw13493542516978994029:Nat:=0
def tw12639227797055743577:Nat:=0
def tw15921533671432292701:Nat:=0
def tw7890780347403715393:Nat:=0
def tw1784670698980207118:Nat:=0
def tw13038569283972122003:Nat:=0
def tw7142511142831387780:Nat:=0
def tw8276394056523168356:Nat:=0
def tw3035645415695231762:Nat:=0
def tw9046563601242051582:Nat:=0
def tw10811938790986404051:Nat:=0
def tw6932819053685106557:Nat:=0
def tw4485847689764056858:Nat:=0
def tw10975549080786197717:Nat:=0
def tw5082270007975439216:Nat:=0
def tw6269508705726714671:Nat:=0
def tw15468630820853183661:Nat:=0
def tw18303648899737252903:Nat:=0
def tw18378122014991139187:Nat:=0
def tw14784289996212033676:Nat:=0
def tw2921577608177677632:Nat:=0
def tw12298553332577352023:Nat:=0
def tw10337025288754808372:Nat:=0
def tw18167166194314143294:Nat:=0
def tw13319257441223783587:Nat:=0
def tw13881175433808979796:Nat:=0
def tw8206341797737226708:Nat:=0
def tw13044768990480587315:Nat:=0
def tw7406741909752648133:Nat:=0
def tw7909767110361856728:Nat:=0
def tw10925080300760391839:Nat:=0
def tw14228331763776218051:Nat:=0
def tw10462777511996079869:Nat:=0
def tw6867816922844523411:Nat:=0
def tw7480360910221653715:Nat:=0
def tw556741029721335541:Nat:=0
def tw5315311268195506209:Nat:=0
def tw13547254500542808793:Nat:=0
def tw1981732390321958786:Nat:=0
def tw17421360503028715417:Nat:=0
def tw17749208405897081783:Nat:=0
def tw3217279728458252620:Nat:=0
def tw4239219304444716017:Nat:=0
def tw3527786406421991056:Nat:=0
def tw11310967146054103522:Nat:=0
def tw14867803847837511117:Nat:=0
def tw4652935428745974594:Nat:=0
def tw3155392418913156448:Nat:=0
def tw12634437014519312761:Nat:=0
def tw12176458001509509280:Nat:=0
def tw18153266505396302079:Nat:=0
def tw15595984298491790951:Nat:=0
def tw15096116847098965643:Nat:=0
def tw13580790568165729463:Nat:=0
def tw4032480679052614474:Nat:=0
def tw392223635031981981:Nat:=0
def tw18374125510481926974:Nat:=0
def tw5658146274630712673:Nat:=0
def tw10851086196537397506:Nat:=0
def tw9463103491219718514:Nat:=0
def tw16471656444623975066:Nat:=0
def tw8854239444737250442:Nat:=0
def tw4689878811602054886:Nat:=0
def tw15391954591395845567:Nat:=0
def tw10696655778321150753:Nat:=0
def tw16325837517397569520:Nat:=0
def tw4628669291278349743:Nat:=0
def tw9159080757113195347:Nat:=0
def tw11919892436814277983:Nat:=0
def tw10283214953548928030:Nat:=0
def tw4546695774622670325:Nat:=0
def tw2875904394400471367:Nat:=0
def tw5134285757100865410:Nat:=0
def tw4770756743497475459:Nat:=0
def tw9432338012612767072:Nat:=0
def tw961339803371573307:Nat:=0
def tw12266256615796130709:Nat:=0
def tw15241380613277628678:Nat:=0
def tw2951850298351922142:Nat:=0
def tw6507883448195252156:Nat:=0
def tw18377547446076876063:Nat:=0
def tw8095949603049683757:Nat:=0
def tw18417629548855755888:Nat:=0
def tw13268080132930353983:Nat:=0
def tw9997618356740645854:Nat:=0
def tw5974886816992359052:Nat:=0
def tw13380236797885835187:Nat:=0
def tw15811519381815728992:Nat:=0
def tw10633306769190846831:Nat:=0
def tw309707032751634647:Nat:=0
def tw18203133767411332957:Nat:=0
end PySem.W.Fast
open PySem PySem.W PyProof.Rows
set_option maxRecDepth 100000 in
set_option maxHeartbeats 0 in
theorem PySem.Challenge.cw_decidebook_k60_orders_refused_and_great_holds : PySem.Challenge.rw_decidebook_k60_orders_refused_and_great.Holds := by
  w_on; o_law; k_head; (case hw => w_witness2)
  k_fill
  refine L2.walk_ofT (y := "best") (ln := 245) (cl := 42) (qual := (("best" : Str) ++ ".<locals>.") ++ "<lambda>") (l := PySem.Challenge.rw_decidebook_k60_orders_refused_and_great) (n := 63) (k := 60) (x := "script") (CX := L2.CX0) (sp := fun K Pt => Sen.spLawT K Pt K60.tbL) rfl (by decide) rfl (by first | exact ⟨rfl, by decide, by decide⟩ | exact ⟨rfl, rfl, by decide, by decide⟩) (fun w h Y => PySem.W.km_in_of Y) rfl ?F ?S ?C
  case F =>
    intro w mg fa h KX G hmg
    have T : ∃ a, K60.Txt PySem.Challenge.rw_decidebook_k60_orders_refused_and_great.prog w (L2.KOf KX) mg a := by
      dsimp only [L2.KOf]
      apply K60.ex_mk
      constructor
      iterate 12 ((try dsimp only);apply PySem.W.mg_of KX G;k_is)
      iterate 39 ((try dsimp only);apply L2.dfm KX G;k_is;k_is;k_is;k_is;intro _ _ _ _ _ _ us hl;first|(have z:=L2.ln_0 hl;subst z;rfl)|(obtain⟨_,us,e,hm⟩:=L2.ln_s hl;clear hl;subst e;have hl:=hm;clear hm;first|(have z:=L2.ln_0 hl;subst z;rfl)|(obtain⟨_,us,e,hm⟩:=L2.ln_s hl;clear hl;subst e;have hl:=hm;clear hm;first|(have z:=L2.ln_0 hl;subst z;rfl)|(obtain⟨_,us,e,hm⟩:=L2.ln_s hl;clear hl;subst e;have hl:=hm;clear hm;first|(have z:=L2.ln_0 hl;subst z;rfl)|(obtain⟨_,us,e,hm⟩:=L2.ln_s hl;clear hl;subst e;have hl:=hm;clear hm;first|(have z:=L2.ln_0 hl;subst z;rfl)|(obtain⟨_,us,e,hm⟩:=L2.ln_s hl;clear hl;subst e;have hl:=hm;clear hm;first|(have z:=L2.ln_0 hl;subst z;rfl)|(obtain⟨_,us,e,hm⟩:=L2.ln_s hl;clear hl;subst e;have hl:=hm;clear hm;first|(have z:=L2.ln_0 hl;subst z;rfl)|(obtain⟨_,us,e,hm⟩:=L2.ln_s hl;clear hl;subst e;have hl:=hm;clear hm;(have z:=L2.ln_0 hl;subst z;rfl)))))))))
      iterate 11 ((try dsimp only);apply L2.dmm;k_is;k_is;k_is;k_is;k_is;intro _ _ _ _ _ _ us hl;first|(have z:=L2.ln_0 hl;subst z;rfl)|(obtain⟨_,us,e,hm⟩:=L2.ln_s hl;clear hl;subst e;have hl:=hm;clear hm;first|(have z:=L2.ln_0 hl;subst z;rfl)|(obtain⟨_,us,e,hm⟩:=L2.ln_s hl;clear hl;subst e;have hl:=hm;clear hm;first|(have z:=L2.ln_0 hl;subst z;rfl)|(obtain⟨_,us,e,hm⟩:=L2.ln_s hl;clear hl;subst e;have hl:=hm;clear hm;first|(have z:=L2.ln_0 hl;subst z;rfl)|(obtain⟨_,us,e,hm⟩:=L2.ln_s hl;clear hl;subst e;have hl:=hm;clear hm;first|(have z:=L2.ln_0 hl;subst z;rfl)|(obtain⟨_,us,e,hm⟩:=L2.ln_s hl;clear hl;subst e;have hl:=hm;clear hm;first|(have z:=L2.ln_0 hl;subst z;rfl)|(obtain⟨_,us,e,hm⟩:=L2.ln_s hl;clear hl;subst e;have hl:=hm;clear hm;first|(have z:=L2.ln_0 hl;subst z;rfl)|(obtain⟨_,us,e,hm⟩:=L2.ln_s hl;clear hl;subst e;have hl:=hm;clear hm;(have z:=L2.ln_0 hl;subst z;rfl)))))))))
      iterate 2 ((try dsimp only);constructor;k_is;k_is;k_is;k_is)
      iterate 4 ((try dsimp only);unfold L2.NoAttr;k_is)
      iterate 10 ((try dsimp only);apply L2.askC_mk;k_is;k_is)
      iterate 5 ((try dsimp only);apply L2.excC_mk;k_exc;k_is;k_is;k_is;rfl)
      (try dsimp only);apply L2.excB_mk;k_is;k_is;k_is
      (try dsimp only);refine of_decide_eq_true ?_;rfl
      (try dsimp only);apply PySem.W.mg_none_of KX G;k_is
      (try dsimp only);apply PySem.W.mg_of KX G;k_is
      (try dsimp only);apply L2.sqT_all;k_is;rfl;decide
      iterate 3 ((try dsimp only);apply PySem.W.mg_of KX G;k_is)
      (try dsimp only);apply L2.shp_mk;k_is;rfl;(unfold K60.tb_SHAPES;decide +kernel);(unfold K60.tb_SHAPES;iterate 10 (apply L2.Ent.cons;k_is;rfl));apply L2.Ent.nil
      (try dsimp only);apply PySem.W.mg_of KX G;k_is
      (try dsimp only);apply L2.lamD_mk;k_is;k_is;rfl;k_is;rfl;first|kernel_rfl|rfl
      iterate 10 ((try dsimp only);apply PySem.W.mg_none_of KX G;k_is)
    obtain ⟨a, T⟩ := T
    have e0 := hmg.symm.trans T.f_law.m
    cases e0
    exact ⟨_, _, _, _, T.lam, K60.x_law T.f_law, fun base kb nb hB => K60.law_all T base hB⟩
  case S => exact fun K Pt H a ns hl hO hS => ⟨a, ns, rfl, hS, hl, hO, fun _ => rfl⟩
  case C => exact fun _ _ _ _ h => h
