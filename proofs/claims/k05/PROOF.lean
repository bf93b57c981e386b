import PyProof.Rows.All
import Wide.All
import OpenK.AllK
import Wide.FinOn
import Lean
import PyProof.EqAt
import PyProof.EqKinds
import PyProof.TupleCall
import KE.KRevIter
import OpenK.KOwn
import PyProof.Draws
import PyProof.EnumMake
import PyProof.StrBlockI
import PyProof.StrBlock2
import PyProof.DictValues
import PyProof.DictWalks
import PySem.Challenge.RW_decidebook_k05_sentences_orders_and_rows
set_option Elab.async false
set_option linter.all false
set_option maxRecDepth 100000
namespace L2
open PySem PySem.Spec PyProof.Rows
abbrev Key:=Sum Int Str
def keyIs:Key→Value→Bool
  | .inl k,v=>Value.isInt k v
  | .inr x,v=>Value.isStrOf x v
def keyH (w:World):Key→Int
  | .inl k=>hashInt k
  | .inr x=>hashStr w x
theorem keyIs_shape:∀ {k:Key} {v:Value},keyIs k v = true→(∃ i t,k = Sum.inl i∧v = Value.int i t)∨(∃ x t,k = Sum.inr x∧v = Value.str x t)
  | .inl i,v,h=>by
    obtain ⟨t,e⟩:=Value.isInt_shape (k:=i) (v:=v) h
    exact .inl ⟨i,t,rfl,e⟩
  | .inr x,v,h=>by
    obtain ⟨t,e⟩:=Value.isStrOf_shape (x:=x) (v:=v) h
    exact .inr ⟨x,t,rfl,e⟩
theorem keyIs_int (i:Int) (t:Tok):keyIs (.inl i) (.int i t) = true:=by simp [keyIs,Value.isInt]
theorem keyIs_str (x:Str) (t:Tok):keyIs (.inr x) (.str x t) = true:=by simp [keyIs,Value.isStrOf]
theorem key_ll (a b:Int):decide ((Sum.inl a:Key) = Sum.inl b) = (a == b):=by
  by_cases e:a = b
  · subst e; simp
  · have h:¬ (Sum.inl a:Key) = Sum.inl b:=fun q=>e (Sum.inl.inj q)
    rw [decide_eq_false h]
    exact (beq_eq_false_iff_ne.mpr e).symm
theorem key_rr (a b:Str):decide ((Sum.inr a:Key) = Sum.inr b) = decide (a = b):=by
  by_cases e:a = b
  · subst e; simp
  · have h:¬ (Sum.inr a:Key) = Sum.inr b:=fun q=>e (Sum.inr.inj q)
    rw [decide_eq_false h,decide_eq_false e]
theorem key_lr (a:Int) (b:Str):decide ((Sum.inl a:Key) = Sum.inr b) = false:=decide_eq_false (fun q=>nomatch q)
theorem key_rl (a:Str) (b:Int):decide ((Sum.inr a:Key) = Sum.inl b) = false:=decide_eq_false (fun q=>nomatch q)
def mixKind (prog:Program) (w:World):PySem.KeyKind prog w Key where
  is:=keyIs
  hash:=keyH w
  inj:=fun v a b ha hb=>by
    rcases keyIs_shape ha with ⟨i,t,rfl,rfl⟩ | ⟨x,t,rfl,rfl⟩
    · rcases keyIs_shape hb with ⟨j,u,rfl,e⟩ | ⟨y,u,rfl,e⟩
      · injection e with e1 _; rw [e1]
      · exact nomatch e
    · rcases keyIs_shape hb with ⟨j,u,rfl,e⟩ | ⟨y,u,rfl,e⟩
      · exact nomatch e
      · injection e with e1 _; rw [e1]
  byValue:=fun k v h=>by
    rcases keyIs_shape h with ⟨i,t,rfl,rfl⟩ | ⟨x,t,rfl,rfl⟩ <;> rfl
  pyHash:=fun hv h=>by
    rcases keyIs_shape hv with ⟨i,t,rfl,rfl⟩ | ⟨x,t,rfl,rfl⟩
    · exact wpAny_pyHash_int h
    · exact wpAny_pyHash_str h
  eqBool:=fun hu hv h=>by
    rcases keyIs_shape hu with ⟨i,t,rfl,rfl⟩ | ⟨x,t,rfl,rfl⟩
    · rcases keyIs_shape hv with ⟨j,u,rfl,rfl⟩ | ⟨y,u,rfl,rfl⟩
      · rw [key_ll] at h; exact wpAny_eqBool_int h
      · rw [key_lr] at h; exact SeqAt.EqAt.int_str i t y u _ _ _ _ h
    · rcases keyIs_shape hv with ⟨j,u,rfl,rfl⟩ | ⟨y,u,rfl,rfl⟩
      · rw [key_rl] at h; exact SeqAt.EqAt.str_int x t j u _ _ _ _ h
      · rw [key_rr] at h; exact wpAny_eqBool_str h
  «strs»:=fun k x t v h=>by
    rcases keyIs_shape h with ⟨i,u,rfl,e⟩ | ⟨y,u,rfl,e⟩
    · exact nomatch e
    · injection e with e1 _
      subst e1
      cases v <;> rfl
theorem mixKind_int (prog:Program) (w:World) (i:Int) (t:Tok):(mixKind prog w).is (.inl i) (.int i t) = true:=keyIs_int i t
theorem mixKind_str (prog:Program) (w:World) (x:Str) (t:Tok):(mixKind prog w).is (.inr x) (.str x t) = true:=keyIs_str x t
end L2
namespace L2
open PySem PySem.Spec PyProof.Rows
inductive V where
  | non | bl (b:Bool) | int (i:Int) | str (x:Str) | byt (b:Array UInt8) | flt (b:UInt64) | ref (a:Addr) | ty (n:String)
  deriving DecidableEq
def RelV:V→Value→Prop
  | .non,u=>u = Value.none
  | .bl b,u=>u = Value.bool b
  | .int i,u=>∃ t,u = Value.int i t
  | .str x,u=>∃ t,u = Value.str x t
  | .byt b,u=>∃ t,u = Value.bytes b t
  | .flt b,u=>∃ t,u = Value.float b t
  | .ref a,u=>u = Value.ref a
  | .ty n,u=>u = Value.type n
abbrev Vals:List V→List Value→Prop:=Paired RelV
theorem Vals.length {xs:List V} {us:List Value} (r:Vals xs us):xs.length = us.length:=Paired.length r
theorem Vals.get:∀ {xs:List V} {us:List Value} {i:Nat} {x:V},Vals xs us→xs[i]? = some x→∃ u,us[i]? = some u∧RelV x u
  | _,_,_,_,.nil,e=>by simp at e
  | _,_,0,_,.cons r _,e=>by simp at e; subst e; exact ⟨_,rfl,r⟩
  | _,_,i + 1,x,.cons _ t,e=>by
    obtain ⟨u,h1,h2⟩:=Vals.get (i:=i) (x:=x) t (by simpa using e)
    exact ⟨u,by simpa using h1,h2⟩
theorem Vals.append:∀ {xs ys:List V} {us ws:List Value},Vals xs us→Vals ys ws→Vals (xs ++ ys) (us ++ ws)
  | _,_,_,_,.nil,s=>s
  | _,_,_,_,.cons r t,s=>.cons r (Vals.append t s)
theorem Vals.take:∀ {xs:List V} {us:List Value} (n:Nat),Vals xs us→Vals (xs.take n) (us.take n)
  | _,_,0,_=>.nil
  | _,_,_ + 1,.nil=>.nil
  | _,_,n + 1,.cons r t=>.cons r (Vals.take n t)
theorem Vals.drop:∀ {xs:List V} {us:List Value} (n:Nat),Vals xs us→Vals (xs.drop n) (us.drop n)
  | _,_,0,r=>r
  | _,_,_ + 1,.nil=>.nil
  | _,_,n + 1,.cons _ t=>Vals.drop n t
def RelO:Option V→Option Value→Prop
  | some v,some u=>RelV v u
  | none,none=>True
  | _,_=>False
def KV {κ:Type}:List (κ × V)→List (κ × Value)→Prop:=Paired fun (p:κ × V) (q:κ × Value)=>p.1 = q.1∧RelV p.2 q.2
def kV:Key→V
  | .inl i=>.int i
  | .inr x=>.str x
inductive HO where
  | lst (xs:List V)
  | tup (xs:List V)
  | dK (kvs:List (Key × V)) | dT (kvs:List (List Key × V))
  | set (S:Int→Bool) (n:Nat)
  | ins (C dx:Addr) (fs:List (Str × V))
  | own (x:Addr)
  | xd (fs:List (Str × V))
  | met (f x:Addr)
  | rng (lo hi:Int)
  | frz (o:Obj) (u:HO)
  | tbl (ps:Array Value)
  | ext (φ:Heap→Prop)
abbrev Hp:=Addr→Option HO
def upd (H:Hp) (a:Addr) (o:HO):Hp:=fun b=>if b = a then some o else H b
theorem upd_same {H:Hp} {a:Addr} {o:HO}:upd H a o a = some o:=by unfold upd; rw [if_pos rfl]
theorem upd_ne {H:Hp} {a b:Addr} {o:HO} (h:b≠a):upd H a o b = H b:=by unfold upd; rw [if_neg h]
theorem upd_upd {H:Hp} {a:Addr} {o u:HO}:upd (upd H a o) a u = upd H a u:=by
  funext b; unfold upd; split <;> rfl
theorem ne_of {H:Hp} {a b:Addr} {o u:HO} (h:H a = some o) (h':H b = some u) (d:o≠u):a≠b:=by
  intro e; subst e; rw [h] at h'; exact d (Option.some.inj h')
theorem ne_of_none {H:Hp} {a b:Addr} {o:HO} (h:H a = some o) (h':H b = none):a≠b:=by
  intro e; subst e; rw [h] at h'; cases h'
section
variable (P:Program) (w:World)
def ObjOk (H:Hp) (h:Heap) (a:Addr):HO→Prop
  | .lst xs=>xs.length≤sizeLine∧∃ (its:List Value) (n:Nat),Vals xs its∧h.get? a = some { cls:=.type "list", data:=.seq its.toArray n }
  | .tup xs=>xs.length≤sizeLine∧∃ its:List Value,Vals xs its∧IsTup h a its.toArray
  | .dK kvs=>kvs.length≤sizeLine∧(a == sysModules) = false∧∃ vs,KV kvs vs∧h.DictOf (mixKind P w) a vs
  | .dT kvs=>kvs.length≤sizeLine∧(a == sysModules) = false∧∃ xs:List (List Key × Addr × Value),
      Paired (fun (p:List Key × V) (q:List Key × Addr × Value)=>p.1 = q.1∧H q.2.1 = some (.tup (p.1.map kV))∧RelV p.2 q.2.2) kvs xs ∧
      ∃ o es ep,h.get? a = some o∧o.ExactDict∧o.data = .dict es ep∧es.toList = xs.map (entryOfKey (tupleKind (mixKind P w)))∧(xs.map (·.1)).Nodup
  | .set S n=>h.SetOf (intKind P w) a S n
  | .ins C dx fs=>H dx = some (.own a)∧fs.length≤1000∧dx≠a∧h.get? a = some (PySem.W.instObj C dx) ∧
      ∃ mA,h.Ns1 dx mA∧(∀ f,RelO (fs.lookup f) (mA f))∧PySem.Within mA (fs.map (·.1))
  | .own _=>∃ o,h.get? a = some o
  | .xd fs=>∃ mA,h.Ns1 a mA∧∀ f,RelO (fs.lookup f) (mA f)
  | .rng lo hi=>∃ t u v,h.get? a = some { cls:=.type "range", data:=.fields #[.int lo t,.int hi u,.int 1 v] }
  | .frz o u=>h.get? a = some o∧ObjOk H h a u
  /- tblFirst -/
  | .tbl ps=>∃ qs:Array Value,h.get? a = some { cls:=.none,data:=.fields qs }∧(qs = #[]∨∃ (c:Addr) (oc:Obj) (vs:Array Value) (q:Str) (t t':Tok),H c = some (.frz oc (.own a))∧qs = #[ps.getD 0 .none,ps.getD 1 .none,.ref c]∧ps[2]? = some (.str q t)∧oc.data = .fields vs∧vs[1]? = some (.str q t'))
  | .met f x=>h.get? a = some (PySem.W.methodObj (.ref f) (.ref x))
  | .ext φ=>φ h∧(∃ o,h.get? a = some o)∧∀ h1 h2:Heap,φ h1→(∀ o,h1.get? a = some o→h2.get? a = some o)→φ h2
def HOk (H:Hp) (h:Heap):Prop:=∀ a o,H a = some o→ObjOk P w H h a o
end
section
variable {P:Program} {w:World} {H H':Hp} {h h':Heap} {a:Addr} {o:HO}
theorem ObjOk.lt (x:ObjOk P w H h a o):a < h.objs.size:=by
  cases o with
  | lst xs=>obtain ⟨_,_,_,_,e⟩:=x; exact Heap.lt_size e
  | tup xs=>obtain ⟨_,_,_,p⟩:=x; exact p.lt
  | dK kvs=>obtain ⟨_,_,_,_,o,_,_,e,_⟩:=x; exact Heap.lt_size e
  | dT kvs=>obtain ⟨_,_,_,_,o,_,_,e,_⟩:=x; exact Heap.lt_size e
  | set S n=>obtain ⟨o,_,_,_,e,_⟩:=x; exact Heap.lt_size e
  | ins C dx fs=>obtain ⟨_,_,_,e,_⟩:=x; exact Heap.lt_size e
  | own y=>obtain ⟨_,e⟩:=x; exact Heap.lt_size e
  | xd fs=>obtain ⟨_,⟨_,_,_,e,_⟩,_⟩:=x; exact Heap.lt_size e
  | rng lo hi=>obtain ⟨_,_,_,e⟩:=x; exact Heap.lt_size e
  | frz ob u=>obtain ⟨e,_⟩:=x; exact Heap.lt_size e
  | tbl ps=>obtain ⟨_,e,_⟩:=x; exact Heap.lt_size e
  | met f y=>exact Heap.lt_size (show h.get? a = some _ from x)
  | ext φ=>obtain ⟨_,⟨_,e⟩,_⟩:=x; exact Heap.lt_size e
theorem Paired.mapP {α β:Type} {F G:α→β→Prop}:∀ {l₁:List α} {l₂:List β},Paired F l₁ l₂→(∀ a b,F a b→G a b)→Paired G l₁ l₂
  | _,_,.nil,_=>.nil
  | _,_,.cons r t,f=>.cons (f _ _ r) (Paired.mapP t f)
theorem ObjOk.stay (x:ObjOk P w H h a o) (k:∀ b u,(b = a∨H b = some (.own a))→h.get? b = some u→h'.get? b = some u)
    (ho:∀ b,H b = some (.own a)→H' b = some (.own a)) (ht:∀ b xs,H b = some (.tup xs)→H' b = some (.tup xs)) (hz:∀ b o u,H b = some (.frz o u)→H' b = some (.frz o u):=by exact fun _ _ _ q=>q):ObjOk P w H' h' a o:=by
  induction o with
  | lst xs=>obtain ⟨z,its,n,r,e⟩:=x; exact ⟨z,its,n,r,k _ _ (.inl rfl) e⟩
  | tup xs=>obtain ⟨z,its,r,ob,e,c⟩:=x; exact ⟨z,its,r,ob,k _ _ (.inl rfl) e,c⟩
  | dK kvs=>obtain ⟨z,y,vs,r,ob,es,ep,e,c⟩:=x; exact ⟨z,y,vs,r,ob,es,ep,k _ _ (.inl rfl) e,c⟩
  | dT kvs =>
    obtain ⟨z,y,xs,r,ob,es,ep,e,c⟩:=x
    exact ⟨z,y,xs,Paired.mapP r fun p q z=>⟨z.1,ht _ _ z.2.1,z.2.2⟩,ob,es,ep,k _ _ (.inl rfl) e,c⟩
  | set S n=>obtain ⟨ob,es,ep,t,e,c⟩:=x; exact ⟨ob,es,ep,t,k _ _ (.inl rfl) e,c⟩
  | ins C dx fs =>
    obtain ⟨d,z,ne,e,mA,⟨od,es,ep,e2,c⟩,r⟩:=x
    exact ⟨ho _ d,z,ne,k _ _ (.inl rfl) e,mA,⟨od,es,ep,k _ _ (.inr d) e2,c⟩,r⟩
  | own y=>obtain ⟨ob,e⟩:=x; exact ⟨ob,k _ _ (.inl rfl) e⟩
  | xd fs=>obtain ⟨mA,⟨od,es,ep,e,c⟩,r⟩:=x; exact ⟨mA,⟨od,es,ep,k _ _ (.inl rfl) e,c⟩,r⟩
  | rng lo hi=>obtain ⟨t,u,v,e⟩:=x; exact ⟨t,u,v,k _ _ (.inl rfl) e⟩
  | frz ob u ih=>obtain ⟨e,q⟩:=x; exact ⟨k _ _ (.inl rfl) e,ih q⟩
  | tbl ps =>
    obtain ⟨qs,e,z⟩:=x
    refine ⟨qs,k a _ (.inl rfl) e,?_⟩
    rcases z with z | ⟨c,oc,vs,q,t,t',hc,z⟩
    · exact .inl z
    · exact .inr ⟨c,oc,vs,q,t,t',hz _ _ _ hc,z⟩
  | met f y =>
    have e:h.get? a = some (PySem.W.methodObj (.ref f) (.ref y)):=x
    show h'.get? a = some (PySem.W.methodObj (.ref f) (.ref y))
    exact k a _ (.inl rfl) e
  | ext φ=>obtain ⟨p,⟨o,e⟩,st⟩:=x; exact ⟨st _ _ p fun o q=>k _ _ (.inl rfl) q,⟨o,k _ _ (.inl rfl) e⟩,st⟩
theorem HOk.lt (x:HOk P w H h) (e:H a = some o):a < h.objs.size:=(x a o e).lt
theorem HOk.fresh (x:HOk P w H h) (e:h.objs.size≤a):H a = none:=by
  cases q:H a with
  | none=>rfl
  | some u=>exact absurd (Nat.lt_of_lt_of_le (x.lt q) e) (Nat.lt_irrefl _)
theorem HOk.kept (x:HOk P w H h) (k:∀ b u,h.get? b = some u→h'.get? b = some u):HOk P w H h':=fun a o e =>
  (x a o e).stay (fun b u _ q=>k b u q) (fun _ q=>q) fun _ _ q=>q
theorem HOk.laid (x:HOk P w H h) (k:∀ b u,h.get? b = some u→h'.get? b = some u) (hp:h.objs.size≤a) (new:ObjOk P w (upd H a o) h' a o):HOk P w (upd H a o) h':=fun b u e=>by
  have hn:=x.fresh hp
  by_cases hb:b = a
  · subst hb; rw [upd_same] at e; cases e; exact new
  · rw [upd_ne hb] at e
    exact (x b u e).stay (fun c v _ q=>k c v q) (fun c q=>by rw [upd_ne (ne_of_none q hn)]; exact q) (fun c xs q=>by rw [upd_ne (ne_of_none q hn)]; exact q) fun c o u q=>by rw [upd_ne (ne_of_none q hn)]; exact q
end
def Rd (H:Hp) (a:Addr) (u:HO):Prop:=H a = some u∨∃ o,H a = some (.frz o u)
theorem Rd.ok {P:Program} {w:World} {H:Hp} {h:Heap} {a:Addr} {u:HO} (r:Rd H a u) (x:HOk P w H h):ObjOk P w H h a u:=by
  rcases r with r | ⟨o,r⟩
  · exact x a u r
  · obtain ⟨_,q⟩:=x a _ r
    exact q
def Mut:Option HO→Prop
  | some (.lst _)=>True
  | some (.dK _)=>True
  | some (.dT _)=>True
  | some (.set _ _)=>True
  | some (.ins _ _ _)=>True
  | some (.ext _)=>True
  | _=>False
section
variable {P:Program} {w:World} {H:Hp} {h h':Heap} {x e:Addr} {o':HO}
theorem HOk.write (ok:HOk P w H h) (mu:Mut (H x)) (he:e = x∨H e = some (.own x)) (k:∀ b u,b≠e→h.get? b = some u→h'.get? b = some u) (heo:∃ u,h'.get? e = some u)
    (new:ObjOk P w (upd H x o') h' x o'):HOk P w (upd H x o') h':=fun b u q=>by
  have nown:∀ c y,H c = some (.own y)→c≠x:=fun c y r z=>by subst z; rw [r] at mu; exact mu
  have ntup:∀ c xs,H c = some (.tup xs)→c≠x:=fun c xs r z=>by subst z; rw [r] at mu; exact mu
  by_cases hb:b = x
  · subst hb; rw [upd_same] at q; cases q; exact new
  · rw [upd_ne hb] at q
    by_cases hbe:b = e
    · have q':H b = some (.own x):=by
        rcases he with z | z
        · exact absurd (hbe.trans z) hb
        · rw [hbe]; exact z
      rw [q] at q'; cases q'
      obtain ⟨v,hv⟩:=heo
      exact ⟨v,by rw [hbe]; exact hv⟩
    · refine (ok b u q).stay (fun c v hc r=>k c v ?_ r) (fun c r=>by rw [upd_ne (nown c b r)]; exact r) (fun c xs r=>by rw [upd_ne (ntup c xs r)]; exact r) fun c ob xs r=>by rw [upd_ne (fun z=>by subst z; rw [r] at mu; exact mu)]; exact r
      rcases hc with rfl | hc
      · exact hbe
      · rintro rfl
        rcases he with z | z
        · exact nown c b hc z
        · rw [hc] at z; cases z; exact hb rfl
end
structure Un (fs ex:List Addr) (H H':Hp) (h h':Heap):Prop where
  keep:∀ b o,h.get? b = some o→H b = none→b ∉ fs→b ∉ ex→h'.get? b = some o
  slot:∀ b o,h.get? b = some o→H b = none→b∈fs→b ∉ ex→∃ sl,h'.get? b = some { o with slots:=sl }
  free:∀ b o,h.get? b = some o→H b = none→b ∉ ex→H' b = none
  there:∀ b o,h.get? b = some o→b ∉ ex→∃ o',h'.get? b = some o'
  tups:∀ b xs,H b = some (.tup xs)→H' b = some (.tup xs)
  frzs:∀ b o u,H b = some (.frz o u)→H' b = some (.frz o u)
  tbls:∀ b ps,H b = some (.tbl ps)→∃ more,H' b = some (.tbl (ps ++ more))
section
variable {fs fs' ex ex':List Addr} {H H1 H2:Hp} {h h1 h2 h':Heap} {a x e:Addr} {o:HO}
theorem Un.any (u:Un fs ex H H1 h h1) {b:Addr} {ob:Obj} (q:h.get? b = some ob) (n:H b = none) (hx:b ∉ ex):∃ sl,h1.get? b = some { ob with slots:=sl }:=by
  by_cases hb:b∈fs
  · exact u.slot b ob q n hb hx
  · exact ⟨ob.slots,u.keep b ob q n hb hx⟩
theorem Un.kept (k:∀ b u,h.get? b = some u→h'.get? b = some u):Un fs ex H H h h' :=
  ⟨fun b ob q _ _ _=>k b ob q,fun b ob q _ _ _=>⟨ob.slots,k b ob q⟩,fun _ _ _ n _=>n,fun b ob q _=>⟨ob,k b ob q⟩,fun _ _ q=>q,fun _ _ _ q=>q,fun _ ps q=>⟨#[],by rw [q]; simp⟩⟩
theorem Un.refl:Un fs ex H H h h:=Un.kept fun _ _ q=>q
theorem Un.laid (k:∀ b u,h.get? b = some u→h'.get? b = some u) (hp:h.objs.size≤a) (hn:H a = none):Un fs ex H (upd H a o) h h' where
  keep:=fun b u q _ _ _=>k b u q
  slot:=fun b u q _ _ _=>⟨u.slots,k b u q⟩
  free:=fun b u q n _=>by rw [upd_ne (Nat.ne_of_lt (Nat.lt_of_lt_of_le (Heap.lt_size q) hp))]; exact n
  there:=fun b u q _=>⟨u,k b u q⟩
  tups:=fun b xs q=>by rw [upd_ne (ne_of_none q hn)]; exact q
  frzs:=fun b u xs q=>by rw [upd_ne (ne_of_none q hn)]; exact q
  tbls:=fun b ps q=>⟨#[],by rw [upd_ne (ne_of_none q hn),q]; simp⟩
theorem Un.write (mu:Mut (H x)) (he:e = x∨H e = some (.own x)) (k:∀ b u,b≠e→h.get? b = some u→h'.get? b = some u) (heo:∃ u,h'.get? e = some u):Un fs ex H (upd H x o) h h':=by
  have hx:∀ b,H b = none→b≠x:=fun b n z=>by subst z; rw [n] at mu; exact mu
  have hb:∀ b,H b = none→b≠e:=fun b n z=>by
    subst z
    rcases he with r | r
    · exact hx b n r
    · rw [n] at r; cases r
  have hm:∀ b u,H b = some u→¬ Mut (some u)→b≠x:=fun b u q nm z=>by subst z; rw [q] at mu; exact nm mu
  refine ⟨fun b u q n _ _=>k b u (hb b n) q,fun b u q n _ _=>⟨u.slots,k b u (hb b n) q⟩,fun b u q n _=>by rw [upd_ne (hx b n)]; exact n,fun b u q _=>?_,
    fun b xs q=>by rw [upd_ne (hm b _ q fun z=>z)]; exact q,fun b u xs q=>by rw [upd_ne (hm b _ q fun z=>z)]; exact q,fun b ps q=>⟨#[],by rw [upd_ne (hm b _ q fun z=>z),q]; simp⟩⟩
  by_cases hbe:b = e
  · subst hbe; exact heo
  · exact ⟨u,k b u hbe q⟩
end
def trk (h:Heap) (H:Hp):List Addr:=(List.range h.objs.size).filter fun a=>(H a).isSome
def hidT (h:Heap) (H:Hp):Heap:=PySem.W.hideAll h (trk h H)
theorem hidT_size (h:Heap) (H:Hp):(hidT h H).objs.size = h.objs.size:=PySem.W.hideAll_size _ _
theorem hidT_get {h:Heap} {H:Hp} {b:Addr} {o:Obj} (e:h.get? b = some o) (n:H b = none):(hidT h H).get? b = some o :=
  PySem.W.hideAll_get _ e fun hm=>by
    have q:(H b).isSome = true:=(List.mem_filter.mp hm).2
    rw [n] at q; simp at q
theorem of_hidT {h:Heap} {H:Hp} {b:Addr} {o:Obj} (e:(hidT h H).get? b = some o):h.get? b = some o∧H b = none:=by
  have e':h.get? b = some o:=PySem.W.of_hideAll (trk h H) e
  refine ⟨e',?_⟩
  cases q:H b with
  | none=>rfl
  | some x =>
    have hm:b∈trk h H:=List.mem_filter.mpr ⟨List.mem_range.mpr (Heap.lt_size e'),by simp [q]⟩
    have z:(hidT h H).get? b = none:=PySem.W.hideAll_none (trk h H) hm
    rw [z] at e; cases e
end L2
namespace L2
open PySem PySem.Spec PyProof.Rows
structure Mod (K:PySem.W.Frag) (mg:Str→Option Value) (base:Heap):Prop where
  kin:K.In base
  glob:base.Ns mainGlobals mg
  blt:∃ mb,base.Ns builtinsNs mb∧∀ x:Str,x ≠ "__name__" → mb x = bootBuiltins x
  nolimit:base.NoLimit
structure Cx where
  prog:Program
  w:World
  K:PySem.W.Frag
  mg:Str→Option Value
  base:Heap
  A:Around
  N:List Str
  s₀:Shared
  H₀:Hp
  env:Env
  outer:List Env
  stack:List Env
  ex:List Addr
  fn:Str→Bool
  calm:Bool
  pn:List (Addr × Obj)
  xe:Value→Shared→Prop
def frs (l:List Env):List Addr:=l.filterMap (·.frame)
abbrev Cx.fs (X:Cx):List Addr:=frs X.outer
def Vis (sc:Scope) (x:Str):Prop:=sc.names.lookup x = some .local∨sc.names.lookup x = some .cell∨sc.names.lookup x = some .free
def Loc (sc:Scope) (x:Str):Prop:=sc.names.lookup x = some .local∨sc.names.lookup x = some .cell
def Look (env:Env) (h:Heap) (m:Str→Option Value) (x:Str) (u:Value):Prop :=
  (env.kindOf x = some .local∧m x = some u)∨((env.kindOf x = some .cell∨env.kindOf x = some .free)∧∃ c,env.cells.lookup x = some c∧h.IsCell c (some u))
structure Cx.Ok (X:Cx):Prop where
  mod:Mod X.K X.mg X.base
  kind:X.env.scope.kind = .function
  glob:X.env.globals = mainGlobals
  blt:X.env.builtins = builtinsNs
  above:X.s₀.heap.objs.size≤X.env.locals
  inj:∀ x y c,X.env.cells.lookup x = some c→X.env.cells.lookup y = some c→x = y
  has:∀ x,(X.env.kindOf x = some .cell∨X.env.kindOf x = some .free)→∃ c,X.env.cells.lookup x = some c
  cab:∀ x c,X.fn x = true→X.env.cells.lookup x = some c→X.s₀.heap.objs.size≤c
  hd:X.calm = true→X.A.handled = none
  frames:X.A.frames = some X.stack
  stk:X.stack = X.outer∨(X.stack = X.env :: X.outer∧X.env.frame = some X.env.locals)
  exf:∀ b∈X.ex,b≠X.env.locals∧∀ x c,X.env.cells.lookup x = some c→c≠b
  bs:∀ b o,X.base.get? b = some o→X.s₀.heap.get? b = some o∧X.H₀ b = none
  bsz:X.base.objs.size≤X.s₀.heap.objs.size
  noex:∀ b o,X.base.get? b = some o→b ∉ X.ex
  exfs:∀ b∈X.ex,b ∉ X.fs
  funs:X.s₀.heap.FunFrames X.base X.outer
  frf:∀ b∈X.fs,X.H₀ b = none
structure Inv (X:Cx) (pins:List (Addr × Obj)) (σ:List (Option V)) (H:Hp) (s:Shared):Prop where
  ok:X.Ok
  os:s.os = X.s₀.os
  bare:AllBare s.gens
  base:Un X.fs X.ex X.H₀ H X.s₀.heap s.heap
  loc:∃ m,s.heap.Ns X.env.locals m∧∀ (i:Nat) (x:Str) (v:V),X.N[i]? = some x→σ[i]? = some (some v)→Vis X.env.scope x→∃ u,RelV v u∧Look X.env s.heap m x u
  cell:∀ x c,X.env.cells.lookup x = some c→∃ v,s.heap.IsCell c v
  free:H X.env.locals = none
  freeC:∀ x c,X.env.cells.lookup x = some c→H c = none
  pin:∀ p∈X.pn ++ pins,s.heap.get? p.1 = some p.2∧H p.1 = none∧p.1≠X.env.locals∧p.1 ∉ X.fs∧∀ v,p.2.data≠.cell v
  hok:HOk X.prog X.w H s.heap
  len:σ.length = X.N.length
section
variable {X:Cx} {pins:List (Addr × Obj)} {σ:List (Option V)} {H H':Hp} {s:Shared} {h':Heap}
theorem Cx.Ok.nofr (ok:X.Ok) {b:Addr} {o:Obj} (e:X.base.get? b = some o):b ∉ X.fs:=fun hb=>by
  have:=(ok.funs.mem hb).1
  rw [e] at this; cases this
theorem Inv.bs (I:Inv X pins σ H s):∀ b o,X.base.get? b = some o→s.heap.get? b = some o∧H b = none:=fun b o e =>
  ⟨I.base.keep b o (I.ok.bs b o e).1 (I.ok.bs b o e).2 (I.ok.nofr e) (I.ok.noex b o e),I.base.free b o (I.ok.bs b o e).1 (I.ok.bs b o e).2 (I.ok.noex b o e)⟩
theorem Inv.bk (I:Inv X pins σ H s):∀ b o,X.base.get? b = some o→s.heap.get? b = some o:=fun b o e=>(I.bs b o e).1
theorem Inv.mod (I:Inv X pins σ H s):Mod X.K X.mg X.base:=I.ok.mod
theorem Inv.kIn (I:Inv X pins σ H s):X.K.In s.heap:=I.ok.mod.kin.keeps I.bk
theorem Inv.lt (I:Inv X pins σ H s):X.env.locals < s.heap.objs.size:=let ⟨_,hn,_⟩:=I.loc; hn.lt
theorem Inv.sz (I:Inv X pins σ H s):X.s₀.heap.objs.size≤s.heap.objs.size:=Nat.le_trans I.ok.above (Nat.le_of_lt I.lt)
theorem Inv.nofs (I:Inv X pins σ H s) {a:Addr} (h:s.heap.objs.size≤a):a ∉ X.fs:=fun hb=>by
  obtain ⟨_,o,ho,_⟩:=I.ok.funs.mem hb
  exact absurd (Nat.lt_of_lt_of_le (Heap.lt_size ho) (Nat.le_trans I.sz h)) (Nat.lt_irrefl _)
theorem Inv.cne (I:Inv X pins σ H s):∀ x c,X.env.cells.lookup x = some c→c≠X.env.locals:=fun x c e z=>by
  obtain ⟨v,o,ho,hd⟩:=I.cell x c e
  obtain ⟨m,⟨o',es,ep,ho',hd',_⟩,_⟩:=I.loc
  rw [z,ho'] at ho; cases ho; rw [hd'] at hd; cases hd
theorem Inv.funs (I:Inv X pins σ H s):s.heap.FunFrames X.base X.outer:=by
  have all:∀ (l:List Env),(∀ b∈frs l,b∈X.fs)→X.s₀.heap.FunFrames X.base l→s.heap.FunFrames X.base l:=by
    intro l
    induction l with
    | nil=>intro _ _; trivial
    | cons env r ih =>
      intro hs hl
      obtain ⟨hk,⟨L,o,hf,hn,ho,hd⟩,hr⟩:=hl
      have hL:L∈X.fs:=hs L (by unfold frs; rw [List.filterMap_cons,hf]; exact List.mem_cons_self)
      obtain ⟨sl,e⟩:=I.base.slot L o ho (I.ok.frf L hL) hL fun z=>I.ok.exfs L z hL
      exact ⟨hk,⟨L,_,hf,hn,e,hd⟩,ih (fun b hb=>hs b (by unfold frs; rw [List.filterMap_cons,hf]; exact List.mem_cons_of_mem _ hb)) hr⟩
  exact all X.outer (fun _ hb=>hb) I.ok.funs
theorem Inv.stack (I:Inv X pins σ H s):s.heap.FunFrames X.base X.stack:=by
  rcases I.ok.stk with e | ⟨e,hf⟩
  · rw [e]; exact I.funs
  · rw [e]
    obtain ⟨m,hn,_⟩:=I.loc
    refine .cons (by rw [I.ok.kind]; decide) hf hn ?_ I.funs
    exact Heap.get?_none_of_le (Nat.le_trans I.ok.bsz I.ok.above)
theorem Inv.stkSub (I:Inv X pins σ H s):∀ b∈frs X.stack,b∈X.env.locals :: X.fs:=fun b hb=>by
  rcases I.ok.stk with e | ⟨e,hf⟩
  · rw [e] at hb; exact List.mem_cons_of_mem _ hb
  · rw [e] at hb
    unfold frs at hb
    rw [List.filterMap_cons,hf] at hb
    exact hb
theorem Inv.stkFree (I:Inv X pins σ H s):∀ b∈frs X.stack,H b = none:=fun b hb=>by
  rcases List.mem_cons.mp (I.stkSub b hb) with e | hb
  · rw [e]; exact I.free
  · obtain ⟨_,o,ho,_⟩:=I.ok.funs.mem hb
    exact I.base.free b o ho (I.ok.frf b hb) fun z=>I.ok.exfs b z hb
theorem Inv.step {g':Array GenState} {t':Nat} {d':Drawn} {ch:List Addr} (I:Inv X pins σ H s)
    (hch:∀ b∈ch,(b∈X.ex∨X.s₀.heap.objs.size≤b)∧b≠X.env.locals∧(∀ x c,X.env.cells.lookup x = some c→c≠b)∧∀ p∈X.pn ++ pins,p.1≠b)
    (keep:∀ b o,b≠X.env.locals→b ∉ X.fs→b ∉ ch→s.heap.get? b = some o→H b = none→h'.get? b = some o)
    (slot:∀ b o,b≠X.env.locals→b∈X.fs→b ∉ ch→s.heap.get? b = some o→H b = none→∃ sl,h'.get? b = some { o with slots:=sl }) (free:∀ b o,b ∉ ch→s.heap.get? b = some o→H b = none→H' b = none)
    (there:∀ b o,b ∉ ch→s.heap.get? b = some o→∃ o',h'.get? b = some o')
    (tups:∀ b xs,H b = some (.tup xs)→H' b = some (.tup xs)) (frzs:∀ b o u,H b = some (.frz o u)→H' b = some (.frz o u)) (tbls:∀ b ps,H b = some (.tbl ps)→∃ more,H' b = some (.tbl (ps ++ more)))
    (ns:∀ m,s.heap.Ns X.env.locals m→h'.Ns X.env.locals m) (hok:HOk X.prog X.w H' h') (hg:AllBare g') :
    Inv X pins σ H' { s with heap:=h',gens:=g',drawn:=d',toks:=t' }:=by
  have neL:∀ b o,X.s₀.heap.get? b = some o→b≠X.env.locals:=fun b o e=>Nat.ne_of_lt (Nat.lt_of_lt_of_le (Heap.lt_size e) I.ok.above)
  have neC:∀ b o,X.s₀.heap.get? b = some o→b ∉ X.ex→b ∉ ch:=fun b o e hx hb=>by
    rcases (hch b hb).1 with z | z
    · exact hx z
    · exact absurd (Nat.lt_of_lt_of_le (Heap.lt_size e) z) (Nat.lt_irrefl _)
  have cellK:∀ x c,X.env.cells.lookup x = some c→∀ v,s.heap.IsCell c v→h'.IsCell c v:=fun x c e v ⟨o,ho,hd⟩=>by
    have nch:c ∉ ch:=fun z=>(hch c z).2.2.1 x c e rfl
    by_cases hc:c∈X.fs
    · obtain ⟨sl,q⟩:=slot c o (I.cne x c e) hc nch ho (I.freeC x c e)
      exact ⟨_,q,hd⟩
    · exact ⟨o,keep c o (I.cne x c e) hc nch ho (I.freeC x c e),hd⟩
  refine ⟨I.ok,I.os,hg,⟨fun b o e n hb hx=>?_,fun b o e n hb hx=>?_,fun b o e n hx=>?_,fun b o e hx=>?_,fun b xs e=>tups b xs (I.base.tups b xs e),fun b o xs e=>frzs b o xs (I.base.frzs b o xs e),fun b ps e=>?_⟩,?_,fun x c e=>?_,?_,fun x c e=>?_,fun p hp=>?_,hok,I.len⟩
  · exact keep b o (neL b o e) hb (neC b o e hx) (I.base.keep b o e n hb hx) (I.base.free b o e n hx)
  · obtain ⟨sl,e1⟩:=I.base.slot b o e n hb hx
    obtain ⟨sl',e2⟩:=slot b _ (neL b o e) hb (neC b o e hx) e1 (I.base.free b o e n hx)
    exact ⟨sl',e2⟩
  · obtain ⟨o',e1⟩:=I.base.there b o e hx
    exact free b o' (neC b o e hx) e1 (I.base.free b o e n hx)
  · obtain ⟨o',e1⟩:=I.base.there b o e hx
    exact there b o' (neC b o e hx) e1
  · obtain ⟨m1,e1⟩:=I.base.tbls b ps e
    obtain ⟨m2,e2⟩:=tbls b _ e1
    exact ⟨m1 ++ m2,by rw [e2,Array.append_assoc]⟩
  · obtain ⟨m,hn,hl⟩:=I.loc
    refine ⟨m,ns m hn,fun i x v e1 e2 e3=>?_⟩
    obtain ⟨u,r,l⟩:=hl i x v e1 e2 e3
    refine ⟨u,r,?_⟩
    rcases l with l | ⟨k,c,e,z⟩
    · exact .inl l
    · exact .inr ⟨k,c,e,cellK x c e _ z⟩
  · obtain ⟨v,z⟩:=I.cell x c e
    exact ⟨v,cellK x c e v z⟩
  · obtain ⟨m,⟨o,_,_,ho,_⟩,_⟩:=I.loc
    exact free _ o (fun z=>(hch _ z).2.1 rfl) ho I.free
  · obtain ⟨v,o,ho,hd⟩:=I.cell x c e
    exact free c o (fun z=>(hch c z).2.2.1 x c e rfl) ho (I.freeC x c e)
  · obtain ⟨e,n,ne,nf,d⟩:=I.pin p hp
    have nch:p.1 ∉ ch:=fun z=>(hch p.1 z).2.2.2 p hp rfl
    exact ⟨keep p.1 p.2 ne nf nch e n,free p.1 p.2 nch e n,ne,nf,d⟩
theorem Inv.un {t':Nat} (I:Inv X pins σ H s) (u:Un X.fs [] H H' s.heap h') (hok:HOk X.prog X.w H' h'):Inv X pins σ H' { s with heap:=h',toks:=t' }:=by
  obtain ⟨m,⟨o,es,ep,ho,r⟩,_⟩:=id I.loc
  obtain ⟨sl,hL⟩:=u.any ho I.free (by simp)
  exact I.step (g':=s.gens) (d':=s.drawn) (ch:=[]) (fun _ z=>nomatch z) (fun b o _ hb _ e n=>u.keep b o e n hb (by simp)) (fun b o _ hb _ e n=>u.slot b o e n hb (by simp)) (fun b o _ e n=>u.free b o e n (by simp)) (fun b o _ e=>u.there b o e (by simp)) u.tups u.frzs u.tbls (fun m' hm=>by
    obtain ⟨o',es',ep',ho',r'⟩:=hm
    rw [ho] at ho'; cases ho'
    exact ⟨_,es',ep',hL,r'⟩) hok I.bare
theorem Inv.call {g':Array GenState} {t':Nat} {d':Drawn} {ch:List Addr} (I:Inv X pins σ H s) (u:Un (frs X.stack) ch H H' s.heap h') (hok:HOk X.prog X.w H' h') (hg:AllBare g')
    (hch:∀ b∈ch,(b∈X.ex∨X.s₀.heap.objs.size≤b)∧b≠X.env.locals∧(∀ x c,X.env.cells.lookup x = some c→c≠b)∧∀ p∈X.pn ++ pins,p.1≠b) :
    Inv X pins σ H' { s with heap:=h',gens:=g',drawn:=d',toks:=t' }:=by
  obtain ⟨m,⟨o,es,ep,ho,r⟩,_⟩:=id I.loc
  obtain ⟨sl,hL⟩:=u.any ho I.free fun z=>(hch _ z).2.1 rfl
  exact I.step (ch:=ch) hch (fun b o hL hb hc e n=>u.keep b o e n (fun z=>(List.mem_cons.mp (I.stkSub b z)).elim hL hb) hc) (fun b o _ _ hc e n=>u.any e n hc) (fun b o hc e n=>u.free b o e n hc) (fun b o hc e=>u.there b o e hc) u.tups u.frzs u.tbls (fun m' hm=>by
    obtain ⟨o',es',ep',ho',r'⟩:=hm
    rw [ho] at ho'; cases ho'
    exact ⟨_,es',ep',hL,r'⟩) hok hg
theorem Inv.turned {t':Nat} {it:Addr} (I:Inv X pins σ H s) (k:∀ b o,b≠it→s.heap.get? b = some o→h'.get? b = some o) (hn:H it = none) (hL:it≠X.env.locals)
    (h1:it∈X.ex∨X.s₀.heap.objs.size≤it) (h2:∀ x c,X.env.cells.lookup x = some c→c≠it) (h3:∀ p∈X.pn ++ pins,p.1≠it):Inv X pins σ H { s with heap:=h',toks:=t' }:=by
  have nit:∀ b u,H b = some u→b≠it:=fun b u e z=>by rw [z,hn] at e; cases e
  refine I.step (g':=s.gens) (d':=s.drawn) (ch:=[it]) (fun b hb=>?_) (fun b o _ _ hc e _=>k b o (fun z=>hc (by simp [z])) e) (fun b o _ _ hc e _=>⟨o.slots,k b o (fun z=>hc (by simp [z])) e⟩) (fun _ _ _ _ n=>n)
    (fun b o hc e=>⟨o,k b o (fun z=>hc (by simp [z])) e⟩) (fun _ _ e=>e) (fun _ _ _ e=>e) (fun b ps e=>⟨#[],by rw [e]; simp⟩) (fun m hm=>?_) (fun b u e=>?_) I.bare
  · have e:b = it:=by simpa using hb
    subst e
    exact ⟨h1,hL,h2,h3⟩
  · obtain ⟨o,es,ep,ho,r⟩:=hm
    exact ⟨o,es,ep,k _ o (Ne.symm hL) ho,r⟩
  · refine (I.hok b u e).stay (fun c v hc q=>k c v ?_ q) (fun _ q=>q) fun _ _ q=>q
    rcases hc with z | z
    · rw [z]; exact nit b u e
    · exact nit c _ z
theorem Inv.tok (I:Inv X pins σ H s) (t:Nat):Inv X pins σ H { s with toks:=t }:=I.un (h':=s.heap) (t':=t) Un.refl I.hok
theorem Inv.kept {t':Nat} (I:Inv X pins σ H s) (k:∀ b u,s.heap.get? b = some u→h'.get? b = some u):Inv X pins σ H { s with heap:=h',toks:=t' }:=I.un (Un.kept k) (I.hok.kept k)
theorem Inv.laid {a:Addr} {o:HO} {t':Nat} (I:Inv X pins σ H s) (k:∀ b u,s.heap.get? b = some u→h'.get? b = some u) (hp:s.heap.objs.size≤a) (new:ObjOk X.prog X.w (upd H a o) h' a o) :
    Inv X pins σ (upd H a o) { s with heap:=h',toks:=t' }:=I.un (Un.laid k hp (I.hok.fresh hp)) (I.hok.laid k hp new)
theorem Inv.write {x e:Addr} {o:HO} {t':Nat} (I:Inv X pins σ H s) (mu:Mut (H x)) (he:e = x∨H e = some (.own x)) (k:∀ b u,b≠e→s.heap.get? b = some u→h'.get? b = some u) (heo:∃ u,h'.get? e = some u)
    (new:ObjOk X.prog X.w (upd H x o) h' x o):Inv X pins σ (upd H x o) { s with heap:=h',toks:=t' }:=I.un (Un.write mu he k heo) (I.hok.write mu he k heo new)
theorem Inv.pins_of {pins':List (Addr × Obj)} (I:Inv X pins σ H s) (h:∀ p∈pins',s.heap.get? p.1 = some p.2∧H p.1 = none∧p.1≠X.env.locals∧p.1 ∉ X.fs∧∀ v,p.2.data≠.cell v):Inv X pins' σ H s :=
  ⟨I.ok,I.os,I.bare,I.base,I.loc,I.cell,I.free,I.freeC,fun p hp=>(List.mem_append.mp hp).elim (fun z=>I.pin p (List.mem_append_left _ z)) (h p),I.hok,I.len⟩
theorem nodup_ix {N:List Str} (hN:N.Nodup) {i j:Nat} {x:Str} (a:N[i]? = some x) (b:N[j]? = some x):i = j:=by
  obtain ⟨h1,e1⟩:=List.getElem?_eq_some_iff.mp a
  obtain ⟨h2,e2⟩:=List.getElem?_eq_some_iff.mp b
  exact (List.getElem_inj hN).mp (e1.trans e2.symm)
theorem store_ok2 {M:Model} {A:Around} {E:Value→Shared→Prop} {i:Nat} {x:Str} {v:V} {u:Value} {Q:Unit→Shared→Prop} (I:Inv X pins σ H s) (hN:X.N.Nodup) (hi:X.N[i]? = some x) (hx:Loc X.env.scope x) (r:RelV v u)
    (h:∀ s',Inv X pins (σ.set i (some v)) H s'→(∃ a,Heap.SameBut a s.heap s'.heap∧(a = X.env.locals∨X.env.cells.lookup x = some a))→Q () s') (hf:X.fn x = true∨X.env.scope.names.lookup x = some .local:=by first | exact .inl rfl | exact .inr rfl | assumption):wpAny M A (storeName X.env x u) Q E s:=by
  obtain ⟨m,hn,hl⟩:=id I.loc
  have hcls:(X.env.scope.kind == .class || (X.env.scope.kind == .module && X.env.locals != X.env.globals)) = false:=by rw [I.ok.kind]; rfl
  have hiσ:i < σ.length:=by rw [I.len]; exact (List.getElem?_eq_some_iff.mp hi).1
  have cne:=I.cne
  have tracked:∀ {a:Addr} {h':Heap},(∃ o,s.heap.get? a = some o∧H a = none)→Heap.SameBut a s.heap h'→HOk X.prog X.w H h':=fun {a h'} ha hs b ob e=>by
    obtain ⟨_,_,hfree⟩:=ha
    refine (I.hok b ob e).stay (fun c w' hc q=>(hs.2 c ?_).trans q) (fun _ q=>q) fun _ _ q=>q
    rintro rfl
    rcases hc with rfl | hc
    · rw [hfree] at e; cases e
    · rw [hfree] at hc; cases hc
  rcases hx with hk | hk
  · refine wpAny_storeName_local hk hn (fun h' hn' hs=>?_) hcls
    obtain ⟨oL,_,_,hoL,_⟩:=id hn
    refine h _ ⟨I.ok,I.os,I.bare,⟨fun b o e n hb hx=>?_,fun b o e n hb hx=>?_,I.base.free,fun b o e hx=>?_,I.base.tups,I.base.frzs,I.base.tbls⟩,⟨_,hn',fun j y v' e1 e2 e3=>?_⟩,fun y c e=>?_,I.free,I.freeC,fun p hp=>?_,tracked ⟨oL,hoL,I.free⟩ hs,by simpa using I.len⟩ ⟨_,hs,.inl rfl⟩
    · exact (hs.2 b (Nat.ne_of_lt (Nat.lt_of_lt_of_le (Heap.lt_size e) I.ok.above))).trans (I.base.keep b o e n hb hx)
    · obtain ⟨sl,e1⟩:=I.base.slot b o e n hb hx
      exact ⟨sl,(hs.2 b (Nat.ne_of_lt (Nat.lt_of_lt_of_le (Heap.lt_size e) I.ok.above))).trans e1⟩
    · obtain ⟨o',e1⟩:=I.base.there b o e hx
      exact ⟨o',(hs.2 b (Nat.ne_of_lt (Nat.lt_of_lt_of_le (Heap.lt_size e) I.ok.above))).trans e1⟩
    · by_cases hj:j = i
      · subst hj
        rw [hi] at e1; cases e1
        rw [List.getElem?_set_self hiσ] at e2
        cases e2
        exact ⟨u,r,.inl ⟨hk,by simp⟩⟩
      · rw [List.getElem?_set_ne (Ne.symm hj)] at e2
        obtain ⟨u',r',q⟩:=hl j y v' e1 e2 e3
        refine ⟨u',r',?_⟩
        rcases q with ⟨k,e⟩ | ⟨k,c,e,z⟩
        · refine .inl ⟨k,?_⟩
          have:y≠x:=fun e=>hj (nodup_ix hN e1 (e ▸ hi))
          simp [this,e]
        · exact .inr ⟨k,c,e,z.sameBut hs (cne y c e)⟩
    · obtain ⟨w',z⟩:=I.cell y c e
      exact ⟨w',z.sameBut hs (cne y c e)⟩
    · obtain ⟨e,n,ne,nf,d⟩:=I.pin p hp
      exact ⟨(hs.2 p.1 ne).trans e,n,ne,nf,d⟩
  · have hfn:X.fn x = true:=by
      rcases hf with z | z
      · exact z
      · rw [z] at hk; cases hk
    obtain ⟨c,hc⟩:=I.ok.has x (.inl hk)
    obtain ⟨w',z⟩:=I.cell x c hc
    refine wpAny_storeName_cell I.ok.kind hk hc z (fun h' hc' hs=>?_)
    obtain ⟨oc,hoc,hocd⟩:=id z
    refine h { s with heap:=h' } ⟨I.ok,I.os,I.bare,⟨fun b o e n hb hx=>?_,fun b o e n hb hx=>?_,I.base.free,fun b o e hx=>?_,I.base.tups,I.base.frzs,I.base.tbls⟩,⟨m,hn.sameBut hs (Ne.symm (cne x c hc)),fun j y v' e1 e2 e3=>?_⟩,fun y c' e=>?_,I.free,I.freeC,fun p hp=>?_,tracked ⟨oc,hoc,I.freeC x c hc⟩ hs,by simpa using I.len⟩ ⟨c,hs,.inr hc⟩
    · exact (hs.2 b (Nat.ne_of_lt (Nat.lt_of_lt_of_le (Heap.lt_size e) (I.ok.cab x c hfn hc)))).trans (I.base.keep b o e n hb hx)
    · obtain ⟨sl,e1⟩:=I.base.slot b o e n hb hx
      exact ⟨sl,(hs.2 b (Nat.ne_of_lt (Nat.lt_of_lt_of_le (Heap.lt_size e) (I.ok.cab x c hfn hc)))).trans e1⟩
    · obtain ⟨o',e1⟩:=I.base.there b o e hx
      exact ⟨o',(hs.2 b (Nat.ne_of_lt (Nat.lt_of_lt_of_le (Heap.lt_size e) (I.ok.cab x c hfn hc)))).trans e1⟩
    · by_cases hj:j = i
      · subst hj
        rw [hi] at e1; cases e1
        rw [List.getElem?_set_self hiσ] at e2
        cases e2
        exact ⟨u,r,.inr ⟨.inl hk,c,hc,hc'⟩⟩
      · rw [List.getElem?_set_ne (Ne.symm hj)] at e2
        obtain ⟨u',r',q⟩:=hl j y v' e1 e2 e3
        refine ⟨u',r',?_⟩
        rcases q with q | ⟨k,c',e,z'⟩
        · exact .inl q
        · refine .inr ⟨k,c',e,z'.sameBut hs ?_⟩
          rintro rfl
          exact hj (nodup_ix hN e1 (I.ok.inj _ _ _ e hc ▸ hi))
    · by_cases hcc:c' = c
      · subst hcc; exact ⟨_,hc'⟩
      · obtain ⟨w2,z2⟩:=I.cell y c' e
        exact ⟨w2,z2.sameBut hs hcc⟩
    · obtain ⟨e,n,ne,nf,d⟩:=I.pin p hp
      refine ⟨(hs.2 p.1 ?_).trans e,n,ne,nf,d⟩
      intro q
      rw [q,hoc] at e
      have q':oc = p.2:=Option.some.inj e
      exact d w' (by rw [← q']; exact hocd)
theorem store_ok {M:Model} {A:Around} {E:Value→Shared→Prop} {i:Nat} {x:Str} {v:V} {u:Value} {Q:Unit→Shared→Prop} (I:Inv X pins σ H s) (hN:X.N.Nodup) (hi:X.N[i]? = some x) (hx:Loc X.env.scope x) (r:RelV v u)
    (h:∀ s',Inv X pins (σ.set i (some v)) H s'→Q () s') (hf:X.fn x = true∨X.env.scope.names.lookup x = some .local:=by first | exact .inl rfl | exact .inr rfl | assumption):wpAny M A (storeName X.env x u) Q E s :=
  store_ok2 I hN hi hx r (fun s' I' _=>h s' I') hf
theorem Inv.call' {s':Shared} {ch:List Addr} (I:Inv X pins σ H s) (ho:s'.os = s.os) (u:Un (frs X.stack) ch H H' s.heap s'.heap) (hok:HOk X.prog X.w H' s'.heap) (hg:AllBare s'.gens)
    (hch:∀ b∈ch,(b∈X.ex∨X.s₀.heap.objs.size≤b)∧b≠X.env.locals∧(∀ x c,X.env.cells.lookup x = some c→c≠b)∧∀ p∈X.pn ++ pins,p.1≠b):Inv X pins σ H' s':=by
  obtain ⟨h',g',d',t',o'⟩:=s'
  have e:o' = s.os:=ho
  subst e
  exact I.call (g':=g') (t':=t') (d':=d') u hok hg hch
end
abbrev XK:=Value→Option Addr→Hp→Prop
abbrev St:=List (Option V)
abbrev VK:=V→Hp→Prop
abbrev TE:=St→Hp→VK→Prop
abbrev TT:=St→Hp→(Bool→Hp→Prop)→Prop
abbrev TA:=St→Hp→(List V→Hp→Prop)→Prop
structure Ends where
  nx:St→Hp→Prop
  rt:VK
  bk:St→Hp→Prop:=fun _ _=>False
  ct:St→Hp→Prop:=fun _ _=>False
abbrev TS:=Ends→St→Hp→Prop
def EP (X:Cx) (pins:List (Addr × Obj)) (σ:St) (Q:VK) (u:Value) (s':Shared):Prop:=∃ v H',Inv X pins σ H' s'∧RelV v u∧Q v H'
def TP (X:Cx) (pins:List (Addr × Obj)) (σ:St) (Q:Bool→Hp→Prop) (b:Bool) (s':Shared):Prop:=∃ H',Inv X pins σ H' s'∧Q b H'
def AP (X:Cx) (pins:List (Addr × Obj)) (σ:St) (Q:List V→Hp→Prop) (us:List Value) (s':Shared):Prop:=∃ vs H',Inv X pins σ H' s'∧Vals vs us∧Q vs H'
def SP (X:Cx) (pins:List (Addr × Obj)) (D:Ends) (f:Flow) (s':Shared):Prop :=
  match f with
  | .next=>∃ σ' H',Inv X pins σ' H' s'∧D.nx σ' H'
  | .brk=>∃ σ' H',Inv X pins σ' H' s'∧D.bk σ' H'
  | .cont=>∃ σ' H',Inv X pins σ' H' s'∧D.ct σ' H'
  | .ret u=>∃ v σ' H',Inv X pins σ' H' s'∧RelV v u∧D.rt v H'
def PE (X:Cx) (e:Expr) (t:TE):Prop :=
  ∀ (pins:List (Addr × Obj)) (s:Shared) (σ:St) (H:Hp) (Q:VK),Inv X pins σ H s→t σ H Q→wpAny (model X.prog X.w) X.A (eval e X.env) (EP X pins σ Q) X.xe s
def PT (X:Cx) (e:Expr) (t:TT):Prop :=
  ∀ (pins:List (Addr × Obj)) (s:Shared) (σ:St) (H:Hp) (Q:Bool→Hp→Prop),Inv X pins σ H s→t σ H Q→wpAny (model X.prog X.w) X.A (isTrue e X.env (eval e X.env)) (TP X pins σ Q) X.xe s
def PW (X:Cx) (e:Expr) (t:TT):Prop :=
  ∀ (whole:Sem Value) (pins:List (Addr × Obj)) (s:Shared) (σ:St) (H:Hp) (Q:Bool→Hp→Prop),Inv X pins σ H s→t σ H Q→wpAny (model X.prog X.w) X.A (isTrue e X.env whole) (TP X pins σ Q) X.xe s
theorem PW.pt {X:Cx} {e:Expr} {t:TT} (h:PW X e t):PT X e t:=h _
def PA (X:Cx) (es:List Expr) (t:TA):Prop :=
  ∀ (pos:Pos) (pins:List (Addr × Obj)) (s:Shared) (σ:St) (H:Hp) (Q:List V→Hp→Prop),Inv X pins σ H s→t σ H Q→wpAny (model X.prog X.w) X.A (spliced (backTo pos (starEach es X.env))) (AP X pins σ Q) X.xe s
def PS (X:Cx) (st:Stmt) (t:TS):Prop :=
  ∀ (pins:List (Addr × Obj)) (s:Shared) (σ:St) (H:Hp) (D:Ends),Inv X pins σ H s→t D σ H→wpAny (model X.prog X.w) X.A (exec st X.env) (SP X pins D) X.xe s
def PSs (X:Cx) (st:List Stmt) (t:TS):Prop :=
  ∀ (pins:List (Addr × Obj)) (s:Shared) (σ:St) (H:Hp) (D:Ends),Inv X pins σ H s→t D σ H→wpAny (model X.prog X.w) X.A (execs st X.env) (SP X pins D) X.xe s
theorem thn {α:Type} {t:Sem α} {Q Q':α→Shared→Prop} {M:Model} {A:Around} {E:Value→Shared→Prop} {s:Shared} (h:wpAny M A t Q E s) (hQ:∀ a s,Q a s→Q' a s):wpAny M A t Q' E s:=wpAny_mono h hQ fun _ _ x=>x
end L2
namespace L2
open PySem PySem.Spec PyProof.Rows
section
variable {X:Cx}
theorem bin {a b:Expr} {ta tb:TE} (ha:PE X a ta) (hb:PE X b tb) {pins:List (Addr × Obj)} {s:Shared} {σ:St} {H:Hp} {R:V→V→Hp→Prop} (I:Inv X pins σ H s) (h:ta σ H fun x H1=>tb σ H1 fun y H2=>R x y H2)
    {α:Type} {Q:α→Shared→Prop} {f:Value→Value→Sem α}
    (hf:∀ v u s2 x y H2,Inv X pins σ H2 s2→RelV x v→RelV y u→R x y H2→wpAny (model X.prog X.w) X.A (f v u) Q X.xe s2) :
    wpAny (model X.prog X.w) X.A (eval a X.env) (fun v s₁=>wpAny (model X.prog X.w) X.A (eval b X.env) (fun u s₂=>wpAny (model X.prog X.w) X.A (f v u) Q X.xe s₂) X.xe s₁) X.xe s:=by
  refine thn (ha pins s σ H _ I h) fun v s1 ⟨x,H1,I1,r1,q1⟩=>?_
  refine thn (hb pins s1 σ H1 _ I1 q1) fun u s2 ⟨y,H2,I2,r2,q2⟩=>?_
  exact hf v u s2 x y H2 I2 r1 r2 q2
inductive tVar (i:Nat) (σ:St) (H:Hp) (Q:V→Hp→Prop):Prop
  | mk (v:V) (_:σ[i]? = some (some v)) (_:Q v H):tVar i σ H Q
def tC (v:V):TE:=fun _ H Q=>Q v H
theorem pe_var {i:Nat} {x:Str} {pos:Pos} (hN:X.N[i]? = some x) (hv:Vis X.env.scope x) (hd:(x == ("__debug__" : Str)) = false:=by decide) (hcd:(x == ("__classdict__" : Str)) = false:=by decide):PE X (.Name x pos) (tVar i):=by
  intro pins s σ H Q I h
  obtain ⟨v,e,h⟩:=h
  obtain ⟨m,hn,hl⟩:=I.loc
  obtain ⟨u,r,l⟩:=hl i x v hN e hv
  have fin:EP X pins σ Q u s:=⟨v,H,I,r,h⟩
  rcases l with ⟨hk,hm⟩ | ⟨hk,c,hc,hcell⟩
  · exact wpAny_Name (wpAny_loadName_local I.ok.kind hk hn hm fin) hd
  · rcases hk with hk | hk
    · exact wpAny_Name (wpAny_loadName_cell I.ok.kind hk hc hcell fin) hd
    · exact wpAny_Name (wpAny_loadName_free I.ok.kind hk hc hcell fin hcd) hd
theorem pe_int {i j pos}:PE X (.Constant (.int i) j pos) (tC (.int i)):=fun _ _ _ H _ I h=>wpAny_Constant_int ⟨.int i,H,I.tok _,⟨_,rfl⟩,h⟩
theorem pe_bl {b j pos}:PE X (.Constant (.bool b) j pos) (tC (.bl b)):=fun _ _ _ H _ I h=>Constant_bool ⟨.bl b,H,I,rfl,h⟩
theorem pe_non {j pos}:PE X (.Constant .none j pos) (tC .non):=fun _ _ _ H _ I h=>Constant_none ⟨.non,H,I,rfl,h⟩
theorem pe_str {x j pos}:PE X (.Constant (.str x) j pos) (tC (.str x)):=fun _ _ _ H _ I h=>Calls.Constant_str ⟨.str x,H,I.tok _,⟨_,rfl⟩,h⟩
def Gl (X:Cx) (x:Str):Prop:=X.env.kindOf x = some .globalImplicit
theorem ld_glob {E:Value→Shared→Prop} {pins:List (Addr × Obj)} {s:Shared} {σ:St} {H:Hp} {x:Str} {u:Value} {pos:Pos} {Q:Value→Shared→Prop} (I:Inv X pins σ H s) (hg:Gl X x) (hm:X.mg x = some u) (h:Q u s)
    (hd:(x == ("__debug__" : Str)) = false:=by decide):wpAny (model X.prog X.w) X.A (eval (.Name x pos) X.env) Q E s :=
  Calls.Name_function_global I.ok.kind hg (Calls.loadGlobal_global (by rw [I.ok.glob]; exact I.mod.glob.keeps I.bk) hm h) hd
theorem ld_blt {E:Value→Shared→Prop} {pins:List (Addr × Obj)} {s:Shared} {σ:St} {H:Hp} {x:Str} {u:Value} {pos:Pos} {Q:Value→Shared→Prop} (I:Inv X pins σ H s) (hg:Gl X x) (hm:X.mg x = none) (hv:bootBuiltins x = some u) (h:Q u s)
    (hn:x ≠ "__name__" := by decide) (hd:(x == ("__debug__" : Str)) = false:=by decide):wpAny (model X.prog X.w) X.A (eval (.Name x pos) X.env) Q E s:=by
  obtain ⟨mb,h1,h2⟩:=I.mod.blt
  exact Calls.Name_function_global I.ok.kind hg (Calls.loadGlobal_builtin (by rw [I.ok.glob]; exact I.mod.glob.keeps I.bk) hm (by rw [I.ok.blt]; exact h1.keeps I.bk) ((h2 x hn).trans hv) h) hd
theorem pe_glob {x:Str} {v:V} {u:Value} {pos:Pos} (hg:Gl X x) (hm:X.mg x = some u) (r:RelV v u) (hd:(x == ("__debug__" : Str)) = false:=by decide):PE X (.Name x pos) (tC v) :=
  fun _ _ _ H _ I h=>ld_glob I hg hm ⟨v,H,I,r,h⟩ hd
theorem pe_bltn {x:Str} {v:V} {u:Value} {pos:Pos} (hg:Gl X x) (hm:X.mg x = none) (hv:bootBuiltins x = some u) (r:RelV v u) (hn:x ≠ "__name__" := by decide) (hd:(x == ("__debug__" : Str)) = false:=by decide):PE X (.Name x pos) (tC v) :=
  fun _ _ _ H _ I h=>ld_blt I hg hm hv ⟨v,H,I,r,h⟩ hn hd
variable {a b:Expr} {ta tb:TE} {pos:Pos}
def PC (X:Cx) (op:CmpOp) (a b:Expr) (t:TE):Prop :=
  ∀ (pins:List (Addr × Obj)) (s:Shared) (σ:St) (H:Hp) (Q:VK),Inv X pins σ H s→t σ H Q →
    wpAny (model X.prog X.w) X.A (eval a X.env) (fun v s₁=>wpAny (model X.prog X.w) X.A (eval b X.env) (fun u s₂=>wpAny (model X.prog X.w) X.A (compareOp op v u) (EP X pins σ Q) X.xe s₂) X.xe s₁) X.xe s
def tB (t:TE):TT:=fun σ H Q=>t σ H fun x H1=>∃ c,x = .bl c∧Q c H1
theorem pt_cmp {op:CmpOp} {t:TE} (h:PC X op a b t) (h1:behindInMarks op b = false:=by first | exact nobehind _ (by decide) (by decide) | rfl):PT X (.Compare a [op] [b] pos) (tB t):=by
  intro pins s σ H Q I hw
  refine wpAny_isTrue_Compare1 (thn (h pins s σ H _ I hw) fun v s1 h1=>thn h1 fun u s2 h2=>thn h2 fun c s3 ⟨x,H1,I1,r1,q1⟩=>?_) h1
  obtain ⟨d,rfl,q⟩:=q1
  cases r1
  exact wpAny_truthy_bool ⟨H1,I1,q⟩
variable {tA tB':TT} {rest:List Expr}
def tAnd (t u:TT):TT:=fun σ H Q=>t σ H fun c H1=>if c = true then u σ H1 Q else Q false H1
def tOr (t u:TT):TT:=fun σ H Q=>t σ H fun c H1=>if c = true then Q true H1 else u σ H1 Q
def tNot (t:TT):TT:=fun σ H Q=>t σ H fun c H1=>Q (!c) H1
theorem pw_and1 (ha:PT X a tA):PW X (.BoolOp .And [a] pos) tA:=by
  intro wh pins s σ H Q I h
  refine isTrue_and (thn (ha pins s σ H Q I h) fun c s1 e=>?_)
  cases c with
  | true=>exact isTrue_and_nil e
  | false=>exact e
theorem pw_or1 (ha:PT X a tA):PW X (.BoolOp .Or [a] pos) tA:=by
  intro wh pins s σ H Q I h
  refine isTrue_or (thn (ha pins s σ H Q I h) fun c s1 e=>?_)
  cases c with
  | false=>exact isTrue_or_nil e
  | true=>exact e
theorem pw_and (ha:PT X a tA) (hb:PW X (.BoolOp .And (b :: rest) pos) tB'):PW X (.BoolOp .And (a :: b :: rest) pos) (tAnd tA tB'):=by
  intro wh pins s σ H Q I h
  refine isTrue_and (thn (ha pins s σ H _ I h) fun c s1 ⟨H1,I1,q1⟩=>?_)
  cases c with
  | true=>exact hb wh pins s1 σ H1 Q I1 q1
  | false=>exact ⟨H1,I1,q1⟩
theorem pw_or (ha:PT X a tA) (hb:PW X (.BoolOp .Or (b :: rest) pos) tB'):PW X (.BoolOp .Or (a :: b :: rest) pos) (tOr tA tB'):=by
  intro wh pins s σ H Q I h
  refine isTrue_or (thn (ha pins s σ H _ I h) fun c s1 ⟨H1,I1,q1⟩=>?_)
  cases c with
  | true=>exact ⟨H1,I1,q1⟩
  | false=>exact hb wh pins s1 σ H1 Q I1 q1
theorem pt_not (ha:PT X a tA):PT X (.UnaryOp .Not a pos) (tNot tA):=by
  intro pins s σ H Q I h
  exact isTrue_not (ha pins s σ H (fun c H1=>Q (!c) H1) I h)
def tAndV (ta tb:TE):TE:=fun σ H Q=>ta σ H fun x H1=>∃ c,x = .bl c∧if c = true then tb σ H1 Q else Q (.bl false) H1
def tOrV (ta tb:TE):TE:=fun σ H Q=>ta σ H fun x H1=>∃ c,x = .bl c∧if c = true then Q (.bl true) H1 else tb σ H1 Q
def tNotV (ta:TE):TE:=fun σ H Q=>ta σ H fun x H1=>∃ c,x = .bl c∧Q (.bl (!c)) H1
theorem pe_one {op} {t:TE} (h:PE X a t):PE X (.BoolOp op [a] pos) t:=fun pins s σ H Q I hw=>BoolOp_one (h pins s σ H Q I hw)
theorem pe_and (ha:PE X a ta) (hb:PE X (.BoolOp .And (b :: rest) pos) tb):PE X (.BoolOp .And (a :: b :: rest) pos) (tAndV ta tb):=by
  intro pins s σ H Q I h
  refine BoolOp_and (thn (ha pins s σ H _ I h) fun v s1 ⟨x,H1,I1,r1,q1⟩=>?_)
  obtain ⟨c,rfl,q1⟩:=q1
  cases r1
  refine wpAny_truthy_bool ?_
  cases c with
  | true=>exact hb pins s1 σ H1 Q I1 q1
  | false=>exact ⟨.bl false,H1,I1,rfl,q1⟩
theorem pe_or (ha:PE X a ta) (hb:PE X (.BoolOp .Or (b :: rest) pos) tb):PE X (.BoolOp .Or (a :: b :: rest) pos) (tOrV ta tb):=by
  intro pins s σ H Q I h
  refine BoolOp_or (thn (ha pins s σ H _ I h) fun v s1 ⟨x,H1,I1,r1,q1⟩=>?_)
  obtain ⟨c,rfl,q1⟩:=q1
  cases r1
  refine wpAny_truthy_bool ?_
  cases c with
  | false=>exact hb pins s1 σ H1 Q I1 q1
  | true=>exact ⟨.bl true,H1,I1,rfl,q1⟩
theorem pe_not (ha:PE X a ta):PE X (.UnaryOp .Not a pos) (tNotV ta):=by
  intro pins s σ H Q I h
  refine UnaryOp_ (thn (ha pins s σ H _ I h) fun v s1 ⟨x,H1,I1,r1,q1⟩=>?_)
  obtain ⟨c,rfl,q1⟩:=q1
  cases r1
  exact not_of (wpAny_truthy_bool ⟨.bl (!c),H1,I1,rfl,q1⟩)
def tIf (t:TT) (ta tb:TE):TE:=fun σ H Q=>t σ H fun c H1=>if c = true then ta σ H1 Q else tb σ H1 Q
theorem pe_ifExp {c:Expr} (hc:PT X c tA) (ha:PE X a ta) (hb:PE X b tb):PE X (.IfExp c a b pos) (tIf tA ta tb):=by
  intro pins s σ H Q I h
  refine wpAny_IfExp (thn (hc pins s σ H _ I h) fun d s1 ⟨H1,I1,q1⟩=>?_)
  cases d with
  | true=>exact ha pins s1 σ H1 Q I1 q1
  | false=>exact hb pins s1 σ H1 Q I1 q1
end
end L2
namespace L2
open PySem PySem.Spec PyProof.Rows
def SqL (K:PySem.W.Frag) (H:Hp) (a:Addr) (xs:List V):Prop :=
  Rd H a (.lst xs) ∨
    ∃ (o:Obj) (its:Array Value) (n:Nat),K.lookup a = some o∧o.cls = .type "list" ∧ o.dict = none∧o.data = .seq its n∧its.size≤sizeLine∧Vals xs its.toList
def SqT (K:PySem.W.Frag) (H:Hp) (a:Addr) (xs:List V):Prop :=
  Rd H a (.tup xs) ∨
    ∃ (o:Obj) (its:Array Value) (n:Nat),K.lookup a = some o∧o.cls = .type "tuple" ∧ o.data = .seq its n∧its.size≤sizeLine∧Vals xs its.toList
def absV:Value→Option V
  | .none=>some .non
  | .bool b=>some (.bl b)
  | .int i _=>some (.int i)
  | .str x _=>some (.str x)
  | .bytes b _=>some (.byt b)
  | .float b _=>some (.flt b)
  | .ref a=>some (.ref a)
  | .type n=>some (.ty n)
  | _=>none
theorem RelV.abs {x:V} {u:Value} (r:RelV x u):absV u = some x:=by
  cases x with
  | non=>cases r; rfl
  | bl _=>cases r; rfl
  | int _=>obtain ⟨t,rfl⟩:=r; rfl
  | str _=>obtain ⟨t,rfl⟩:=r; rfl
  | byt _=>obtain ⟨t,rfl⟩:=r; rfl
  | flt _=>obtain ⟨t,rfl⟩:=r; rfl
  | ref _=>cases r; rfl
  | ty _=>cases r; rfl
theorem RelV.inj {x y:V} {u:Value} (r:RelV x u) (q:RelV y u):x = y:=Option.some.inj (r.abs.symm.trans q.abs)
theorem Vals.inj:∀ {xs ys:List V} {us:List Value},Vals xs us→Vals ys us→xs = ys
  | _,_,_,.nil,.nil=>rfl
  | _,_,_,.cons r t,.cons r' t'=>by rw [r.inj r',Vals.inj t t']
section
variable {X:Cx} {pins:List (Addr × Obj)} {σ:St} {H:Hp} {s:Shared} {a:Addr} {xs ys:List V}
theorem SqL.of {K:PySem.W.Frag} (h:H a = some (.lst xs)):SqL K H a xs:=.inl (.inl h)
theorem SqT.of {K:PySem.W.Frag} (h:H a = some (.tup xs)):SqT K H a xs:=.inl (.inl h)
theorem Inv.list (I:Inv X pins σ H s) (h:SqL X.K H a xs):∃ its:List Value,Vals xs its∧PlainL s.heap a its.toArray∧xs.length≤sizeLine:=by
  rcases h with h | ⟨o,its,n,hk,hc,hd,hs,hz,r⟩
  · obtain ⟨z,its,n,r,e⟩:=h.ok I.hok
    exact ⟨its,r,⟨_,n,e,rfl,rfl,rfl⟩,z⟩
  · refine ⟨its.toList,r,⟨o,n,I.kIn a o hk,hc,hd,by simpa using hs⟩,?_⟩
    have e:=r.length
    simp only [Array.length_toList] at e
    omega
theorem Inv.tuple (I:Inv X pins σ H s) (h:SqT X.K H a xs):∃ its:List Value,Vals xs its∧IsTup s.heap a its.toArray∧xs.length≤sizeLine:=by
  rcases h with h | ⟨o,its,n,hk,hc,hs,hz,r⟩
  · obtain ⟨z,its,r,p⟩:=h.ok I.hok
    exact ⟨its,r,p,z⟩
  · refine ⟨its.toList,r,⟨o,I.kIn a o hk,hc,n,by simpa using hs⟩,?_⟩
    have e:=r.length
    simp only [Array.length_toList] at e
    omega
theorem Inv.list_inj (I:Inv X pins σ H s) (h:SqL X.K H a xs) (h':SqL X.K H a ys):xs = ys:=by
  obtain ⟨its,r,⟨o,n,e,_,_,d⟩,_⟩:=I.list h
  obtain ⟨its',r',⟨o',n',e',_,_,d'⟩,_⟩:=I.list h'
  rw [e] at e'; cases e'
  rw [d] at d'
  injection d' with d1 _
  have:its = its':=by simpa using congrArg Array.toList d1
  subst this
  exact r.inj r'
theorem Inv.tuple_inj (I:Inv X pins σ H s) (h:SqT X.K H a xs) (h':SqT X.K H a ys):xs = ys:=by
  obtain ⟨its,r,⟨o,e,_,n,d⟩,_⟩:=I.tuple h
  obtain ⟨its',r',⟨o',e',_,n',d'⟩,_⟩:=I.tuple h'
  rw [e] at e'; cases e'
  rw [d] at d'
  injection d' with d1 _
  have:its = its':=by simpa using congrArg Array.toList d1
  subst this
  exact r.inj r'
end
abbrev Cx.wish (X:Cx) (E:Value→Shared→Prop):Cx:={ X with xe:=E }
abbrev Cx.nox (X:Cx):Cx:=X.wish fun _ _=>False
theorem Cx.Ok.wish {X:Cx} (ok:X.Ok) (E:Value→Shared→Prop):(X.wish E).Ok :=
  ⟨ok.mod,ok.kind,ok.glob,ok.blt,ok.above,ok.inj,ok.has,ok.cab,ok.hd,ok.frames,ok.stk,ok.exf,ok.bs,ok.bsz,ok.noex,ok.exfs,ok.funs,ok.frf⟩
theorem Cx.Ok.unwish {X:Cx} {E:Value→Shared→Prop} (ok:(X.wish E).Ok):X.Ok :=
  ⟨ok.mod,ok.kind,ok.glob,ok.blt,ok.above,ok.inj,ok.has,ok.cab,ok.hd,ok.frames,ok.stk,ok.exf,ok.bs,ok.bsz,ok.noex,ok.exfs,ok.funs,ok.frf⟩
section
variable {X:Cx} {pins:List (Addr × Obj)} {σ:St} {H:Hp} {s:Shared} {E:Value→Shared→Prop}
theorem Inv.wish (I:Inv X pins σ H s) (E:Value→Shared→Prop):Inv (X.wish E) pins σ H s:=⟨I.ok.wish E,I.os,I.bare,I.base,I.loc,I.cell,I.free,I.freeC,I.pin,I.hok,I.len⟩
theorem Inv.unwish (I:Inv (X.wish E) pins σ H s):Inv X pins σ H s:=⟨I.ok.unwish,I.os,I.bare,I.base,I.loc,I.cell,I.free,I.freeC,I.pin,I.hok,I.len⟩
theorem SP.unwish {D:Ends} {f:Flow} {s':Shared} (h:SP (X.wish E) pins D f s'):SP X pins D f s':=by
  cases f with
  | next=>obtain ⟨σ',H',I,q⟩:=h; exact ⟨σ',H',I.unwish,q⟩
  | brk=>obtain ⟨σ',H',I,q⟩:=h; exact ⟨σ',H',I.unwish,q⟩
  | cont=>obtain ⟨σ',H',I,q⟩:=h; exact ⟨σ',H',I.unwish,q⟩
  | ret u=>obtain ⟨v,σ',H',I,r,q⟩:=h; exact ⟨v,σ',H',I.unwish,r,q⟩
theorem PSs.nox {st:List Stmt} {t:TS} (h:PSs X.nox st t):PSs X st t:=fun pins s σ H D I hw =>
  wpAny_mono (h pins s σ H D (I.wish _) hw) (fun _ _ q=>q.unwish) fun _ _ z=>False.elim z
end
section
variable {X:Cx} {st:Stmt} {rest:List Stmt} {t u:TS} {e:Expr} {te:TE} {pos:Pos}
def tNext:TS:=fun D σ H=>D.nx σ H
def tSeq (t u:TS):TS:=fun D σ H=>t { D with nx:=u D } σ H
theorem pss_nil:PSs X [] tNext:=fun _ _ σ H _ I h=>wpAny_execs_nil ⟨σ,H,I,h⟩
theorem pss_cons (h1:PS X st t) (h2:PSs X rest u):PSs X (st :: rest) (tSeq t u):=by
  intro pins s σ H D I h
  refine wpAny_execs_cons (thn (h1 pins s σ H { D with nx:=u D } I h) fun f s1 q=>?_)
  cases f with
  | next =>
    obtain ⟨σ',H',I',q⟩:=q
    exact h2 pins s1 σ' H' D I' q
  | ret v=>exact q
  | brk=>exact q
  | cont=>exact q
theorem pss_one (h1:PS X st t):PSs X [st] t:=by
  intro pins s σ H D I h
  refine wpAny_execs_cons (thn (h1 pins s σ H D I h) fun f s1 q=>?_)
  cases f with
  | next=>exact wpAny_execs_nil q
  | ret v=>exact q
  | brk=>exact q
  | cont=>exact q
theorem Inv.quiet {pins:List (Addr × Obj)} {σ:St} {H:Hp} {s:Shared} (I:Inv X pins σ H s):interactive X.env = false:=by simp [interactive,I.ok.kind]
def tDrop (te:TE):TS:=fun D σ H=>te σ H fun _ H1=>D.nx σ H1
theorem ps_expr (he:PE X e te) (hs:swapsWith e none pos.line X.env = pure false:=by rfl):PS X (.Expr e pos) (tDrop te):=by
  intro pins s σ H D I h
  exact wpAny_Expr_any (thn (he pins s σ H _ I h) fun v s1 ⟨x,H1,I1,r1,q1⟩=>⟨σ,H1,I1,q1⟩) I.quiet hs
def tRet (te:TE):TS:=fun D σ H=>te σ H D.rt
theorem ps_ret (he:PE X e te):PS X (.Return (some e) pos) (tRet te):=by
  intro pins s σ H D I h
  exact wpAny_Return_some (thn (he pins s σ H _ I h) fun v s1 ⟨x,H1,I1,r1,q1⟩=>⟨x,σ,H1,I1,r1,q1⟩)
def tIfS (c:TT) (t u:TS):TS:=fun D σ H=>c σ H fun b H1=>if b = true then t D σ H1 else u D σ H1
theorem ps_if {c:Expr} {a b:List Stmt} {tc:TT} (hc:PT X c tc) (ha:PSs X a t) (hb:PSs X b u):PS X (.If c a b pos) (tIfS tc t u):=by
  intro pins s σ H D I h
  refine wpAny_If (thn (hc pins s σ H _ I h) fun d s1 ⟨H1,I1,q1⟩=>?_)
  cases d with
  | true=>exact ha pins s1 σ H1 D I1 q1
  | false=>exact hb pins s1 σ H1 D I1 q1
def tNever:TS:=fun _ _ _=>False
theorem ps_never:PS X st tNever:=fun _ _ _ _ _ _ h=>h.elim
theorem pss_never {sts:List Stmt}:PSs X sts tNever:=fun _ _ _ _ _ _ h=>h.elim
end
abbrev TG:=V→St→Hp→(St→Hp→Prop)→Prop
abbrev TGs:=List V→St→Hp→(St→Hp→Prop)→Prop
def PG (X:Cx) (target:Expr) (t:TG):Prop :=
  ∀ (pins:List (Addr × Obj)) (s:Shared) (σ:St) (H:Hp) (v:V) (u:Value) (Q:St→Hp→Prop),Inv X pins σ H s→RelV v u→t v σ H Q →
    wpAny (model X.prog X.w) X.A (assign target X.env u) (fun _ s'=>∃ σ' H',Inv X pins σ' H' s'∧Q σ' H') X.xe s
def PGs (X:Cx) (ts:List Expr) (t:TGs):Prop :=
  ∀ (pins:List (Addr × Obj)) (s:Shared) (σ:St) (H:Hp) (vs:List V) (us:List Value) (Q:St→Hp→Prop),Inv X pins σ H s→Vals vs us→t vs σ H Q →
    wpAny (model X.prog X.w) X.A (assignInOrder ((assignEach ts X.env).map (·.2)) us) (fun _ s'=>∃ σ' H',Inv X pins σ' H' s'∧Q σ' H') X.xe s
abbrev TIp:=V→V→Hp→VK→Prop
def PIp (X:Cx) (op:Operator) (t:TIp):Prop :=
  ∀ (pins:List (Addr × Obj)) (s:Shared) (σ:St) (H:Hp) (x y:V) (v u:Value) (Q:VK),Inv X pins σ H s→RelV x v→RelV y u→t x y H Q →
    wpAny (model X.prog X.w) X.A (inplaceOp op v u) (EP X pins σ Q) X.xe s
section
variable {X:Cx} {pos:Pos}
def gName (i:Nat):TG:=fun v σ H Q=>Q (σ.set i (some v)) H
theorem pg_name {i:Nat} {x:Str} (hN:X.N.Nodup) (hi:X.N[i]? = some x) (hx:Loc X.env.scope x) (hf:X.fn x = true∨X.env.scope.names.lookup x = some .local:=by first | exact .inl rfl | exact .inr rfl | assumption):PG X (.Name x pos) (gName i):=by
  intro pins s σ H v u Q I r h
  exact wpAny_assign_Name (store_ok I hN hi hx r (fun s' I'=>⟨_,H,I',h⟩) hf)
def gNil:TGs:=fun vs σ H Q=>vs = []∧Q σ H
def gCons (t:TG) (u:TGs):TGs:=fun vs σ H Q=>∃ v r,vs = v :: r∧t v σ H fun σ' H'=>u r σ' H' Q
theorem pgs_nil:PGs X [] gNil:=by
  intro pins s σ H vs us Q I r h
  obtain ⟨e,h⟩:=h
  subst e
  cases r
  exact assignInOrder_nil ⟨σ,H,I,h⟩
theorem pgs_cons {e:Expr} {es:List Expr} {t:TG} {u:TGs} (h1:PG X e t) (h2:PGs X es u)
    (hs:(assignEach (e :: es) X.env).map (·.2) = assign e X.env :: (assignEach es X.env).map (·.2):=by rfl):PGs X (e :: es) (gCons t u):=by
  intro pins s σ H vs us Q I r h
  obtain ⟨v,vr,e1,h⟩:=h
  subst e1
  cases r with
  | cons r rr =>
    rw [hs]
    refine assignInOrder_cons (thn (h1 pins s σ H _ _ _ I r h) fun _ s1 ⟨σ1,H1,I1,q1⟩=>?_)
    exact h2 pins s1 σ1 H1 _ _ Q I1 rr q1
def gTup (K:PySem.W.Frag) (n:Nat) (t:TGs):TG:=fun v σ H Q=>∃ a xs,v = .ref a∧SqT K H a xs∧xs.length = n∧t xs σ H Q
theorem pg_tup {es:List Expr} {k:Nat} {t:TGs} {n:Nat} (hc:X.calm = true) (h:PGs X es t)
    (hn:(assignEach es X.env).length = n:=by rfl) (hst:(assignEach es X.env).findIdx? (·.1) = none:=by rfl):PG X (.Tuple es k pos) (gTup X.K n t):=by
  intro pins s σ H v u Q I r hw
  obtain ⟨a,xs,e1,hq,hl,hw⟩:=hw
  subst e1
  cases r
  obtain ⟨its,rv,ht,hz⟩:=I.tuple hq
  refine assign_Tuple_tuple (I.ok.hd hc) ht (by simp [hn,← hl,rv.length]) hst fun h' hx=>?_
  have I1:Inv X pins σ H { s with heap:=h' }:=I.kept (t':=s.toks) fun b o e=>hx b o (Nat.ne_of_lt (Heap.lt_size e)) e
  exact h pins _ σ H xs _ Q I1 (by simpa using rv) hw
def tAsg (te:TE) (g:TG):TS:=fun D σ H=>te σ H fun x H1=>g x σ H1 D.nx
theorem ps_set {i:Nat} {x:Str} {e:Expr} {te:TE} {pos':Pos} (hN:X.N.Nodup) (hi:X.N[i]? = some x) (hx:Loc X.env.scope x) (he:PE X e te) (hs:swapsWith e (some (.Name x pos')) pos.line X.env = pure false:=by rfl) (hf:X.fn x = true∨X.env.scope.names.lookup x = some .local:=by first | exact .inl rfl | exact .inr rfl | assumption) :
    PS X (.Assign [.Name x pos'] e pos) (tAsg te (gName i)):=by
  intro pins s σ H D I h
  refine wpAny_Assign_Name (thn (he pins s σ H _ I h) fun v s1 ⟨y,H1,I1,r1,q1⟩=>?_) hs
  exact store_ok I1 hN hi hx r1 (fun s2 I2=>⟨_,H1,I2,q1⟩) hf
def tAug (i:Nat) (te:TE) (ti:TIp):TS:=fun D σ H=>∃ x,σ[i]? = some (some x)∧te σ H fun y H1=>ti x y H1 fun z H2=>D.nx (σ.set i (some z)) H2
theorem ps_aug {i:Nat} {x:Str} {e:Expr} {te:TE} {op:Operator} {ti:TIp} {pos':Pos} (hN:X.N.Nodup) (hi:X.N[i]? = some x) (hx:Loc X.env.scope x) (he:PE X e te) (ho:PIp X op ti) (hf:X.fn x = true∨X.env.scope.names.lookup x = some .local:=by first | exact .inl rfl | exact .inr rfl | assumption) :
    PS X (.AugAssign (.Name x pos') op e pos) (tAug i te ti):=by
  intro pins s σ H D I h
  obtain ⟨v,e1,h⟩:=h
  obtain ⟨m,hn,hl⟩:=I.loc
  have vis:Vis X.env.scope x:=by rcases hx with k | k; exact .inl k; exact .inr (.inl k)
  obtain ⟨u,r,l⟩:=hl i x v hi e1 vis
  refine wpAny_AugAssign_Name ?_
  have go:wpAny (model X.prog X.w) X.A (eval e X.env) (fun w s₂=>wpAny (model X.prog X.w) X.A (inplaceOp op u w) (fun r s₃=>wpAny (model X.prog X.w) X.A (storeName X.env x r) (fun _=>SP X pins D .next) X.xe s₃) X.xe s₂) X.xe s:=by
    refine thn (he pins s σ H _ I h) fun w s1 ⟨y,H1,I1,r1,q1⟩=>?_
    refine thn (ho pins s1 σ H1 v y u w _ I1 r r1 q1) fun z s2 ⟨zv,H2,I2,r2,q2⟩=>?_
    exact store_ok I2 hN hi hx r2 (fun s3 I3=>⟨_,H2,I3,q2⟩) hf
  rcases l with ⟨hk,hm⟩ | ⟨hk,c,hc,hcell⟩
  · exact wpAny_loadName_local I.ok.kind hk hn hm go
  · rcases hk with hk | hk
    · exact wpAny_loadName_cell I.ok.kind hk hc hcell go
    · rcases hx with k | k
      · have:X.env.scope.names.lookup x = some .free:=hk
        rw [k] at this; cases this
      · have:X.env.scope.names.lookup x = some .free:=hk
        rw [k] at this; cases this
end
section
variable {X:Cx} {pos:Pos}
def tWhile (c:TT) (tb:TS):TS:=fun D σ H=>∃ W:Nat→St→Hp→Prop,(∃ m,W m σ H)∧∀ m σ H,W m σ H →
  c σ H fun b H1=>if b = true then ∃ N:St→Hp→Prop,(∀ σ' H',N σ' H'→∃ m',m' < m∧W m' σ' H')∧tb { D with nx:=N,ct:=N,bk:=D.nx } σ H1 else D.nx σ H1
theorem ps_while {c:Expr} {body:List Stmt} {tc:TT} {tb:TS} (hp:PassesOwn (model X.prog X.w) X.A X.env X.xe) (hc:PT X c tc) (hb:PSs X body tb):PS X (.While c body [] pos) (tWhile tc tb):=by
  intro pins s σ H D I h
  obtain ⟨W,⟨m0,w0⟩,turn⟩:=h
  refine wpAny_While (codeAny_whileLoop (fun n s'=>∃ σ' H',Inv X pins σ' H' s'∧W n σ' H') ?_ m0 ⟨σ,H,I,w0⟩)
  rintro n s1 ⟨σ1,H1,I1,w1⟩
  refine wpAny_passesOwn hp (thn (hc pins s1 σ1 H1 _ I1 (turn n σ1 H1 w1)) fun b s2 ⟨H2,I2,q2⟩=>?_)
  cases b with
  | true =>
    obtain ⟨N,hN,q2⟩:=q2
    rw [if_pos rfl]
    refine wpAny_passesOwn hp (thn (hb pins s2 σ1 H2 _ I2 q2) fun f s3 q3=>?_)
    cases f with
    | next =>
      obtain ⟨σ3,H3,I3,n3⟩:=q3
      obtain ⟨m',hm,w3⟩:=hN σ3 H3 n3
      exact ⟨m',hm,σ3,H3,I3,w3⟩
    | cont =>
      obtain ⟨σ3,H3,I3,n3⟩:=q3
      obtain ⟨m',hm,w3⟩:=hN σ3 H3 n3
      exact ⟨m',hm,σ3,H3,I3,w3⟩
    | brk=>exact q3
    | ret v=>exact q3
  | false =>
    rw [if_neg Bool.false_ne_true]
    exact wpAny_execs_nil ⟨σ1,H2,I2,q2⟩
end
structure It where
  go:Nat→Hp→Prop
  yld:Nat→Hp→V→Hp→Prop
  stop:Nat→Hp→Prop
def FpOk (X:Cx) (pins:List (Addr × Obj)) (H:Hp) (b:Addr):Prop :=
  H b = none∧b≠X.env.locals∧b ∉ X.fs∧(b∈X.ex∨X.s₀.heap.objs.size≤b)∧(∀ x c,X.env.cells.lookup x = some c→c≠b)∧∀ p∈X.pn ++ pins,p.1≠b
theorem Inv.fpOk {X:Cx} {pins:List (Addr × Obj)} {σ:St} {H H':Hp} {s:Shared} {b:Addr} (I:Inv X pins σ H s) (hb:s.heap.objs.size≤b) (hn:H' b = none):FpOk X pins H' b:=by
  refine ⟨hn,Nat.ne_of_gt (Nat.lt_of_lt_of_le I.lt hb),I.nofs hb,.inr (Nat.le_trans I.sz hb),fun x c e z=>?_,fun p hp z=>?_⟩
  · obtain ⟨v,q⟩:=I.cell x c e
    exact absurd (Nat.lt_of_lt_of_le q.lt (by rw [z]; exact hb)) (Nat.lt_irrefl _)
  · exact absurd (Nat.lt_of_lt_of_le (Heap.lt_size (I.pin p hp).1) (by rw [z]; exact hb)) (Nat.lt_irrefl _)
abbrev Calm (X:Cx):Prop:=X.calm = true
structure Turn (P:Program) (w:World) (K:PySem.W.Frag) (tg:Expr) (J:It) (fp:List Addr) (it:Addr) (tn:Nat→Heap→Prop) (rd:Cx→Prop:=Calm):Prop where
  mem:it∈fp
  obj:∀ i h,tn i h→∀ b∈fp,∃ o,h.get? b = some o∧∀ v,o.data≠.cell v
  keep:∀ i h h',tn i h→(∀ b∈fp,∀ o,h.get? b = some o→h'.get? b = some o)→tn i h'
  item:∀ (X:Cx),X.prog = P→X.w = w→X.K = K→rd X→∀ (i:Nat) (pins:List (Addr × Obj)) (s:Shared) (σ:St) (H:Hp) (E:Value→Shared→Prop),Inv X pins σ H s→(∀ b∈fp,FpOk X pins H b)→tn i s.heap→J.go i H →
    wpAny (model P w) X.A (pyNext (.ref it)) (fun r s1=>∃ u,r = some u ∧
      wpAny (model P w) X.A (letOwnedTupleGo tg (.ref it) u) (fun _ s2=>∃ x H',Inv X pins σ H' s2∧RelV x u∧J.yld i H x H'∧tn (i + 1) s2.heap∧∀ b∈fp,H' b = none) E s1) E s
  done:∀ (X:Cx),X.prog = P→X.w = w→X.K = K→rd X→∀ (i:Nat) (pins:List (Addr × Obj)) (s:Shared) (σ:St) (H:Hp) (E:Value→Shared→Prop),Inv X pins σ H s→(∀ b∈fp,FpOk X pins H b)→tn i s.heap→J.stop i H →
    wpAny (model P w) X.A (pyNext (.ref it)) (fun r s1=>r = none∧Inv X pins σ H s1) E s
  self:∀ (A:Around) (i:Nat) (s:Shared) (Q:Value→Shared→Prop) (E:Value→Shared→Prop),tn i s.heap→Q (.ref it) s→wpAny (model P w) A (pyIter (.ref it)) Q E s
abbrev TI:=St→Hp→(It→Hp→Prop)→Prop
def PIEr (rd:Cx→Prop) (X:Cx) (pins:List (Addr × Obj)) (σ:St) (tg:Expr) (R:It→Hp→Prop) (itv:Value) (s2:Shared):Prop :=
  ∃ (it:Addr) (fp:List Addr) (tn:Nat→Heap→Prop) (J:It) (H':Hp),itv = .ref it∧Inv X pins σ H' s2∧Turn X.prog X.w X.K tg J fp it tn rd∧tn 0 s2.heap∧(∀ b∈fp,FpOk X pins H' b)∧R J H'
abbrev PIE:=PIEr Calm
def PIr (rd:Cx→Prop) (X:Cx) (tg iter:Expr) (wi:TI):Prop :=
  ∀ (pins:List (Addr × Obj)) (s:Shared) (σ:St) (H:Hp) (R:It→Hp→Prop),Inv X pins σ H s→wi σ H R →
    wpAny (model X.prog X.w) X.A (eval iter X.env) (fun v s1=>wpAny (model X.prog X.w) X.A (pyIter v) (PIEr rd X pins σ tg R) X.xe s1) X.xe s
abbrev PI:=PIr Calm
theorem go_of {M:Model} {A:Around} {E:Value→Shared→Prop} {s:Shared} {tg:Expr} {it:Addr} {u:Value} {o:Obj} {n:String} {vs:Array Value} {Q:Unit→Shared→Prop} (ho:s.heap.get? it = some o) (hc:o.cls = .type n) (hd:o.data = .fields vs)
    (hn:["enumerate", "zip", "dict_itemiterator", "dict_reverseitemiterator", "odict_iterator", "itertools.zip_longest", "itertools.pairwise"].contains n = false) (hQ:Q () s):wpAny M A (letOwnedTupleGo tg (.ref it) u) Q E s:=by
  unfold letOwnedTupleGo
  cases tg <;> first
    | exact wpAny_pure hQ
    | (cases u <;> first
        | exact wpAny_pure hQ
        | (refine wpAny_bind (wpAny_load ho ?_)
           rw [hc,hd]
           show wpAny M A (if (["enumerate", "zip", "dict_itemiterator", "dict_reverseitemiterator", "odict_iterator", "itertools.zip_longest", "itertools.pairwise"].contains n && vs[0]? == some (rawInt _)) = true then _ else _) Q E s
           rw [if_neg (by intro h; rw [hn,Bool.false_and] at h; cases h)]
           exact wpAny_pure hQ))
def Itl (K:PySem.W.Frag) (a:Addr):It :=
  ⟨fun i H=>∃ xs x,SqL K H a xs∧xs[i]? = some x,fun i H x H'=>H' = H∧∀ xs,SqL K H a xs→xs[i]? = some x,fun i H=>∃ xs,SqL K H a xs∧xs.length≤i⟩
def Itt (K:PySem.W.Frag) (a:Addr):It :=
  ⟨fun i H=>∃ xs x,SqT K H a xs∧xs[i]? = some x,fun i H x H'=>H' = H∧∀ xs,SqT K H a xs→xs[i]? = some x,fun i H=>∃ xs,SqT K H a xs∧xs.length≤i⟩
def Itr (lo:Int) (n:Nat):It:=⟨fun i _=>i < n,fun i H x H'=>H' = H∧x = .int (lo + i),fun i _=>n≤i⟩
theorem turn_list {P:Program} {w:World} {K:PySem.W.Frag} {tg:Expr} (a it:Addr):Turn P w K tg (Itl K a) [it] it (fun i h=>h.IsListIter it a i) where
  mem:=by simp
  obj:=fun i h st b hb=>by
    have e:b = it:=by simpa using hb
    subst e
    obtain ⟨o,e,c,d⟩:=st
    exact ⟨o,e,fun v z=>by rw [d] at z; cases z⟩
  keep:=fun i h h' st k=>st.at fun o e=>k it (by simp) o e
  item:=by
    intro X hP hw hK hc i pins s σ H E I hf st hg
    subst hP hw hK
    obtain ⟨xs,x,hq,hx⟩:=hg
    obtain ⟨its,rv,p,hz⟩:=I.list hq
    obtain ⟨u,hu,ru⟩:=rv.get hx
    obtain ⟨f0,f1,f2,f3,f4,f5⟩:=hf it (by simp)
    refine wpAny_pyNext_list_item st p.isList (x:=u) (by simpa using hu) fun h' st' sb=>?_
    have I1:Inv X pins σ H { s with heap:=h' }:=I.turned (t':=s.toks) (fun b o hb e=>(sb.2 b hb).trans e) f0 f1 f3 f4 f5
    obtain ⟨o,e,c,d⟩:=id st'
    exact ⟨u,rfl,go_of (s:={ s with heap:=h' }) e c d (by decide) ⟨x,H,I1,ru,⟨rfl,fun ys hy=>by rw [I.list_inj hy hq]; exact hx⟩,st',fun b hb=>(hf b hb).1⟩⟩
  done:=by
    intro X hP hw hK hc i pins s σ H E I hf st hg
    subst hP hw hK
    obtain ⟨xs,hq,hx⟩:=hg
    obtain ⟨its,rv,p,hz⟩:=I.list hq
    obtain ⟨f0,f1,f2,f3,f4,f5⟩:=hf it (by simp)
    have hl:=rv.length
    exact wpAny_pyNext_list_end (I.ok.hd hc) st p.isList (by simp; omega) fun h' eb=>⟨rfl,I.turned (t':=s.toks) (fun b o hb e=>eb b o hb e) f0 f1 f3 f4 f5⟩
  self:=fun _ _ _ _ _ st h=>wpAny_pyIter_listiter st h
theorem turn_tuple {P:Program} {w:World} {K:PySem.W.Frag} {tg:Expr} (a it:Addr):Turn P w K tg (Itt K a) [it] it (fun i h=>h.IsTupleIter it a i) where
  mem:=by simp
  obj:=fun i h st b hb=>by
    have e:b = it:=by simpa using hb
    subst e
    obtain ⟨o,e,c,d⟩:=st
    exact ⟨o,e,fun v z=>by rw [d] at z; cases z⟩
  keep:=fun i h h' st k=>st.at fun o e=>k it (by simp) o e
  item:=by
    intro X hP hw hK hc i pins s σ H E I hf st hg
    subst hP hw hK
    obtain ⟨xs,x,hq,hx⟩:=hg
    obtain ⟨its,rv,p,hz⟩:=I.tuple hq
    obtain ⟨u,hu,ru⟩:=rv.get hx
    obtain ⟨f0,f1,f2,f3,f4,f5⟩:=hf it (by simp)
    refine wpAny_pyNext_tuple_item st (show s.heap.IsTuple a its.toArray from p) (x:=u) (by simpa using hu) fun h' st' sb=>?_
    have I1:Inv X pins σ H { s with heap:=h' }:=I.turned (t':=s.toks) (fun b o hb e=>(sb.2 b hb).trans e) f0 f1 f3 f4 f5
    obtain ⟨o,e,c,d⟩:=id st'
    exact ⟨u,rfl,go_of (s:={ s with heap:=h' }) e c d (by decide) ⟨x,H,I1,ru,⟨rfl,fun ys hy=>by rw [I.tuple_inj hy hq]; exact hx⟩,st',fun b hb=>(hf b hb).1⟩⟩
  done:=by
    intro X hP hw hK hc i pins s σ H E I hf st hg
    subst hP hw hK
    obtain ⟨xs,hq,hx⟩:=hg
    obtain ⟨its,rv,p,hz⟩:=I.tuple hq
    obtain ⟨f0,f1,f2,f3,f4,f5⟩:=hf it (by simp)
    have hl:=rv.length
    exact wpAny_pyNext_tuple_end (I.ok.hd hc) st (show s.heap.IsTuple a its.toArray from p) (by simp; omega) fun h' eb=>⟨rfl,I.turned (t':=s.toks) (fun b o hb e=>eb b o hb e) f0 f1 f3 f4 f5⟩
  self:=fun _ _ _ _ _ st h=>wpAny_pyIter_tupleiter st h
theorem turn_range {P:Program} {w:World} {K:PySem.W.Frag} {tg:Expr} (it:Addr) (lo:Int) (n:Nat):Turn P w K tg (Itr lo n) [it] it (fun i h=>IsRangeIter h it (lo + (i:Nat) * 1) ((n:Int) - (i:Nat)) 1) where
  mem:=by simp
  obj:=fun i h st b hb=>by
    have e:b = it:=by simpa using hb
    subst e
    exact ⟨_,st,fun v z=>by
      have z':Data.fields _ = Data.cell v:=z
      cases z'⟩
  keep:=fun i h h' st k=>k it (by simp) _ st
  item:=by
    intro X hP hw hK hc i pins s σ H E I hf st hg
    subst hP hw hK
    obtain ⟨f0,f1,f2,f3,f4,f5⟩:=hf it (by simp)
    have W:=Walks.range (prog:=X.prog) (w:=X.w) (I.ok.hd hc) it lo 1 n
    refine W.item i s _ _ hg st fun v h' tk hv st' kk=>?_
    obtain ⟨t,rfl⟩:=hv
    have I1:Inv X pins σ H { s with heap:=h',toks:=tk }:=I.turned (fun b o hb e=>kk b o (by simpa using hb) e) f0 f1 f3 f4 f5
    refine ⟨_,rfl,go_of (s:={ s with heap:=h',toks:=tk }) (n := "range_iterator") st' rfl rfl (by decide) ⟨.int (lo + i),H,I1,⟨t,?_⟩,⟨rfl,rfl⟩,st',fun b hb=>(hf b hb).1⟩⟩
    rw [Int.mul_one]
  done:=by
    intro X hP hw hK hc i pins s σ H E I hf st hg
    subst hP hw hK
    obtain ⟨f0,f1,f2,f3,f4,f5⟩:=hf it (by simp)
    exact wpAny_pyNext_range_end (I.ok.hd hc) st (by have:n≤i:=hg; omega) fun h' eb=>⟨rfl,I.turned (t':=s.toks) (fun b o hb e=>eb b o hb e) f0 f1 f3 f4 f5⟩
  self:=fun _ _ _ _ _ st h=>wpAny_pyIter_rangeiter st h
end L2
namespace L2
open PySem PySem.Spec PyProof.Rows
section
variable {X:Cx} {tg:Expr}
def iList (K:PySem.W.Frag) (tl:TE):TI:=fun σ H R=>tl σ H fun x H1=>∃ a,x = .ref a∧(∃ xs,SqL K H1 a xs)∧R (Itl K a) H1
def iTup (K:PySem.W.Frag) (tl:TE):TI:=fun σ H R=>tl σ H fun x H1=>∃ a,x = .ref a∧(∃ xs,SqT K H1 a xs)∧R (Itt K a) H1
theorem pi_list {l:Expr} {tl:TE} (hl:PE X l tl):PI X tg l (iList X.K tl):=by
  intro pins s σ H R I h
  refine thn (hl pins s σ H _ I h) fun v s1 ⟨x,H1,I1,r1,q1⟩=>?_
  obtain ⟨a,e,⟨xs,hq⟩,q⟩:=q1
  subst e
  cases r1
  obtain ⟨its,rv,p,hz⟩:=I1.list hq
  refine wpAny_pyIter_list p.isList ?_
  refine ⟨s1.heap.objs.size,[s1.heap.objs.size],_,_,H1,rfl,I1.kept (t':=s1.toks) fun b o e=>Heap.get?_push_of_some _ e,turn_list a _,⟨_,Heap.get?_push_size _ rfl,rfl,rfl⟩,fun b hb=>?_,q⟩
  have e:b = s1.heap.objs.size:=by simpa using hb
  subst e
  exact I1.fpOk (Nat.le_refl _) (I1.hok.fresh (Nat.le_refl _))
theorem pi_tup {l:Expr} {tl:TE} (hl:PE X l tl):PI X tg l (iTup X.K tl):=by
  intro pins s σ H R I h
  refine thn (hl pins s σ H _ I h) fun v s1 ⟨x,H1,I1,r1,q1⟩=>?_
  obtain ⟨a,e,⟨xs,hq⟩,q⟩:=q1
  subst e
  cases r1
  obtain ⟨its,rv,p,hz⟩:=I1.tuple hq
  refine wpAny_pyIter_tuple (show s1.heap.IsTuple a its.toArray from p) ?_
  refine ⟨s1.heap.objs.size,[s1.heap.objs.size],_,_,H1,rfl,I1.kept (t':=s1.toks) fun b o e=>Heap.get?_push_of_some _ e,turn_tuple a _,⟨_,Heap.get?_push_size _ rfl,rfl,rfl⟩,fun b hb=>?_,q⟩
  have e:b = s1.heap.objs.size:=by simpa using hb
  subst e
  exact I1.fpOk (Nat.le_refl _) (I1.hok.fresh (Nat.le_refl _))
theorem range_it {pins:List (Addr × Obj)} {σ:St} {H:Hp} {s:Shared} {R:It→Hp→Prop} {E:Value→Shared→Prop} {lo hi:Int} {t u v:Tok} {tk:Nat} (I:Inv X pins σ H s) (h1:-(2 ^ 62)≤lo) (h2:lo < 2 ^ 62) (h3:-(2 ^ 62)≤hi) (h4:hi < 2 ^ 62)
    (q:R (Itr lo (hi - lo).toNat) H):wpAny (model X.prog X.w) X.A (pyIter (.ref s.heap.objs.size)) (PIE X pins σ tg R) E { s with heap:=s.heap.push { cls:=.type "range", data:=.fields #[.int lo t,.int hi u,.int 1 v] },toks:=tk }:=by
  refine wpAny_pyIter_range (IsRange.new ..) (small_one h1 h2 h3 h4) ?_
  have I1:Inv X pins σ H { s with heap:=s.heap.push { cls:=.type "range", data:=.fields #[.int lo t,.int hi u,.int 1 v] },toks:=tk }:=I.kept fun b o e=>Heap.get?_push_of_some _ e
  refine ⟨(s.heap.push { cls:=.type "range", data:=.fields #[.int lo t,.int hi u,.int 1 v] }).objs.size,[(s.heap.push { cls:=.type "range", data:=.fields #[.int lo t,.int hi u,.int 1 v] }).objs.size],_,_,H,rfl,
    I1.kept (t':=tk) fun b o e=>Heap.get?_push_of_some _ e,turn_range _ lo (hi - lo).toNat,?_,fun b hb=>?_,q⟩
  · have e1:lo + ((0:Nat):Int) * 1 = lo:=by simp
    have e2:(((hi - lo).toNat:Nat):Int) - ((0:Nat):Int) = Builtin.Range.rangeSize lo hi 1:=by rw [rangeSize_one]; split <;> omega
    show IsRangeIter _ _ (lo + ((0:Nat):Int) * 1) ((((hi - lo).toNat:Nat):Int) - ((0:Nat):Int)) 1
    rw [e1,e2]
    exact Heap.get?_push_size _ rfl
  · have e:b = (s.heap.push { cls:=.type "range", data:=.fields #[.int lo t,.int hi u,.int 1 v] }).objs.size:=by simpa using hb
    subst e
    exact I1.fpOk (Nat.le_refl _) (I1.hok.fresh (Nat.le_refl _))
def iRng1 (ta:TA):TI:=fun σ H R=>ta σ H fun vs H1=>∃ j:Int,vs = [.int j]∧-(2 ^ 62)≤j∧j < 2 ^ 62∧R (Itr 0 j.toNat) H1
def iRng2 (ta:TA):TI:=fun σ H R=>ta σ H fun vs H1=>∃ i j:Int,vs = [.int i,.int j]∧(-(2 ^ 62)≤i∧i < 2 ^ 62∧-(2 ^ 62)≤j∧j < 2 ^ 62)∧R (Itr i (j - i).toNat) H1
theorem pi_range1 {a:Expr} {ta:TA} {p pos:Pos} (hg:Gl X "range") (hm:X.mg "range" = none) (ha:PA X [a] ta) (hs:starEach [a] X.env = [(false,eval a X.env)]:=by rfl):PI X tg (.Call (.Name "range" p) [a] [] pos) (iRng1 ta):=by
  intro pins s σ H R I h
  refine Call_ (ld_blt I hg hm boot_range (PyProof.Rows.callWith_type1 (thn (ha pos pins s σ H _ I h) fun us s1 ⟨vs,H1,I1,r1,q1⟩=>?_) hs rfl))
  obtain ⟨j,e,q1,q2,q⟩:=q1
  subst e
  cases r1 with
  | cons r rr =>
    cases rr
    obtain ⟨t,rfl⟩:=r
    exact call_range_1 (range_it I1 (by omega) (by omega) q1 q2 (by simpa using q))
theorem pi_range2 {a b:Expr} {ta:TA} {p pos:Pos} (hg:Gl X "range") (hm:X.mg "range" = none) (ha:PA X [a,b] ta) (hs:starEach [a,b] X.env = [(false,eval a X.env),(false,eval b X.env)]:=by rfl) (hs2:starEach [b] X.env = [(false,eval b X.env)]:=by rfl) :
    PI X tg (.Call (.Name "range" p) [a,b] [] pos) (iRng2 ta):=by
  intro pins s σ H R I h
  refine Call_ (ld_blt I hg hm boot_range (PyProof.Rows.callWith_type1 (thn (ha pos pins s σ H _ I h) fun us s1 ⟨vs,H1,I1,r1,q1⟩=>?_) (by rw [hs,hs2]) (by rw [hs2]; rfl)))
  obtain ⟨i,j,e,⟨q1,q2,q3,q4⟩,q⟩:=q1
  subst e
  cases r1 with
  | cons r rr =>
    cases rr with
    | cons r' rr =>
      cases rr
      obtain ⟨t,rfl⟩:=r
      obtain ⟨t',rfl⟩:=r'
      exact call_range_2 (range_it I1 q1 q2 q3 q4 q)
def tFor (wi:TI) (g:TG) (tb:TS):TS:=fun D σ H=>wi σ H fun J H1=>∃ W:Nat→Nat→St→Hp→Prop,(∃ m,W 0 m σ H1)∧∀ i m σ H,W i m σ H →
  (J.stop i H∧D.nx σ H)∨(J.go i H∧∃ N:St→Hp→Prop,(∀ σ' H',N σ' H'→∃ m',m' < m∧W (i + 1) m' σ' H')∧∀ x H',J.yld i H x H'→g x σ H' fun σ2 H2=>tb { D with nx:=N,ct:=N,bk:=D.nx } σ2 H2)
def pinsAt (fp:List Addr) (h:Heap):List (Addr × Obj):=fp.filterMap fun b=>(h.get? b).map fun o=>(b,o)
theorem mem_pinsAt {fp:List Addr} {h:Heap} {b:Addr} {o:Obj} (hb:b∈fp) (e:h.get? b = some o):(b,o)∈pinsAt fp h:=List.mem_filterMap.mpr ⟨b,hb,by rw [e]; rfl⟩
theorem of_pinsAt {fp:List Addr} {h:Heap} {p:Addr × Obj} (hp:p∈pinsAt fp h):p.1∈fp∧h.get? p.1 = some p.2:=by
  obtain ⟨b,hb,e⟩:=List.mem_filterMap.mp hp
  cases q:h.get? b with
  | none=>rw [q] at e; cases e
  | some o =>
    rw [q] at e
    have e':(b,o) = p:=Option.some.inj e
    subst e'
    exact ⟨hb,q⟩
theorem Inv.pinned {pins:List (Addr × Obj)} {σ:St} {H:Hp} {s:Shared} {fp:List Addr} (I:Inv X pins σ H s) (hf:∀ b∈fp,FpOk X pins H b) (ho:∀ b∈fp,∃ o,s.heap.get? b = some o∧∀ v,o.data≠.cell v):Inv X (pins ++ pinsAt fp s.heap) σ H s :=
  I.pins_of fun p hp=>(List.mem_append.mp hp).elim (fun z=>I.pin p (List.mem_append_right _ z)) fun z=>by
    obtain ⟨hb,e⟩:=of_pinsAt z
    obtain ⟨f0,f1,f2,_⟩:=hf p.1 hb
    obtain ⟨o,e',d⟩:=ho p.1 hb
    rw [e] at e'; cases e'
    exact ⟨e,f0,f1,f2,d⟩
theorem Inv.unpinned {pins pl:List (Addr × Obj)} {σ:St} {H:Hp} {s:Shared} (I:Inv X (pins ++ pl) σ H s):Inv X pins σ H s:=I.pins_of fun p hp=>I.pin p (List.mem_append_right _ (List.mem_append_left _ hp))
theorem ps_for {iter:Expr} {body:List Stmt} {wi:TI} {g:TG} {tb:TS} {pos:Pos} (hp:PassesOwn (model X.prog X.w) X.A X.env X.xe) (hc:X.calm = true) (hi:PI X tg iter wi) (hg:PG X tg g) (hb:PSs X body tb)
    (hs:∀ x,foldedSetIterable iter X.env x = pure x:=by intro _; rfl):PS X (.For tg iter body [] pos) (tFor wi g tb):=by
  intro pins s σ H D I h
  refine wpAny_For (thn (hi pins s σ H _ I h) fun v s1 h1=>thn h1 fun itv s2 h2=>?_) hs
  obtain ⟨it,fp,tn,J,H2,e,I2,T,st2,f2,W,⟨m0,w0⟩,turn⟩:=h2
  subst e
  have stat:∀ {H':Hp},(∀ b∈fp,H' b = none)→∀ b∈fp,FpOk X pins H' b:=fun hn b hb=>⟨hn b hb,(f2 b hb).2⟩
  refine codeAny_forLoop_any (fun n s'=>∃ i σ' H',Inv X pins σ' H' s'∧tn i s'.heap∧(∀ b∈fp,H' b = none)∧W i n σ' H') ?_ m0 ⟨0,σ,H2,I2,st2,fun b hb=>(f2 b hb).1,w0⟩
  rintro n s3 ⟨i,σ3,H3,I3,st3,fr3,w3⟩
  rcases turn i n σ3 H3 w3 with ⟨stop,qn⟩ | ⟨go,N,hN,step⟩
  · refine wpAny_passesOwn hp (thn (T.done X rfl rfl rfl hc i pins s3 σ3 H3 X.xe I3 (stat fr3) st3 stop) fun r s4 ⟨hr,I4⟩=>?_)
    subst hr
    exact wpAny_execs_nil ⟨σ3,H3,I4,qn⟩
  · refine wpAny_passesOwn hp (thn (T.item X rfl rfl rfl hc i pins s3 σ3 H3 X.xe I3 (stat fr3) st3 go) fun r s4 ⟨u,hr,h4⟩=>?_)
    subst hr
    refine wpAny_passesOwn hp (thn h4 fun _ s5 ⟨x,H5,I5,r5,y5,st5,fr5⟩=>?_)
    have I5':=I5.pinned (stat fr5) (T.obj _ _ st5)
    refine wpAny_passesOwn hp (thn (hg _ s5 σ3 H5 x u _ I5' r5 (step x H5 y5)) fun _ s6 ⟨σ6,H6,I6,q6⟩=>?_)
    refine wpAny_passesOwn hp (thn (hb _ s6 σ6 H6 _ I6 q6) fun f s7 q7=>?_)
    have again:∀ {σ7:St} {H7:Hp},Inv X (pins ++ pinsAt fp s5.heap) σ7 H7 s7→N σ7 H7→∃ m,m < n∧∃ i σ' H',Inv X pins σ' H' s7∧tn i s7.heap∧(∀ b∈fp,H' b = none)∧W i m σ' H':=fun {σ7 H7} I7 n7=>by
      obtain ⟨m',hm,w7⟩:=hN σ7 H7 n7
      refine ⟨m',hm,i + 1,σ7,H7,I7.unpinned,T.keep _ _ _ st5 fun b hb o e=>(I7.pin (b,o) (List.mem_append_right _ (List.mem_append_right _ (mem_pinsAt hb e)))).1,fun b hb=>?_,w7⟩
      obtain ⟨o,e,d⟩:=T.obj _ _ st5 b hb
      exact (I7.pin (b,o) (List.mem_append_right _ (List.mem_append_right _ (mem_pinsAt hb e)))).2.1
    cases f with
    | next=>obtain ⟨σ7,H7,I7,n7⟩:=q7; exact again I7 n7
    | cont=>obtain ⟨σ7,H7,I7,n7⟩:=q7; exact again I7 n7
    | brk=>obtain ⟨σ7,H7,I7,q7⟩:=q7; exact ⟨σ7,H7,I7.unpinned,q7⟩
    | ret v=>obtain ⟨x7,σ7,H7,I7,r7,q7⟩:=q7; exact ⟨x7,σ7,H7,I7.unpinned,r7,q7⟩
end
theorem for_list {K:PySem.W.Frag} {a:Addr} {xs:List V} {g:TG} {tb:TS} {D:Ends} {σ:St} {H:Hp} (Pv:Nat→St→Hp→Prop) (h0:Pv 0 σ H) (hl:∀ i σ H,i≤xs.length→Pv i σ H→SqL K H a xs)
    (hs:∀ i x σ H,xs[i]? = some x→Pv i σ H→g x σ H fun σ2 H2=>tb { D with nx:=Pv (i + 1),ct:=Pv (i + 1),bk:=D.nx } σ2 H2) (hd:∀ σ H,Pv xs.length σ H→D.nx σ H) :
    ∃ W:Nat→Nat→St→Hp→Prop,(∃ m,W 0 m σ H)∧∀ i m σ H,W i m σ H →
      ((Itl K a).stop i H∧D.nx σ H)∨((Itl K a).go i H∧∃ N:St→Hp→Prop,(∀ σ' H',N σ' H'→∃ m',m' < m∧W (i + 1) m' σ' H')∧∀ x H',(Itl K a).yld i H x H'→g x σ H' fun σ2 H2=>tb { D with nx:=N,ct:=N,bk:=D.nx } σ2 H2):=by
  refine ⟨fun i m σ H=>m = xs.length - i∧i≤xs.length∧Pv i σ H,⟨xs.length,by simp,Nat.zero_le _,h0⟩,?_⟩
  rintro i m σ H ⟨rfl,hi,p⟩
  have q:=hl i σ H hi p
  by_cases hlt:i < xs.length
  · refine .inr ⟨⟨xs,xs[i],q,by simp [hlt]⟩,Pv (i + 1),fun σ' H' p'=>⟨xs.length - (i + 1),by omega,rfl,hlt,p'⟩,fun x H' y=>?_⟩
    obtain ⟨e,y⟩:=y
    subst e
    exact hs i x σ _ (y xs q) p
  · have e:i = xs.length:=by omega
    subst e
    exact .inl ⟨⟨xs,q,Nat.le_refl _⟩,hd σ H p⟩
theorem for_range {lo:Int} {n:Nat} {g:TG} {tb:TS} {D:Ends} {σ:St} {H:Hp} (Pv:Nat→St→Hp→Prop) (h0:Pv 0 σ H)
    (hs:∀ i σ H,i < n→Pv i σ H→g (.int (lo + i)) σ H fun σ2 H2=>tb { D with nx:=Pv (i + 1),ct:=Pv (i + 1),bk:=D.nx } σ2 H2) (hd:∀ σ H,Pv n σ H→D.nx σ H) :
    ∃ W:Nat→Nat→St→Hp→Prop,(∃ m,W 0 m σ H)∧∀ i m σ H,W i m σ H →
      ((Itr lo n).stop i H∧D.nx σ H)∨((Itr lo n).go i H∧∃ N:St→Hp→Prop,(∀ σ' H',N σ' H'→∃ m',m' < m∧W (i + 1) m' σ' H')∧∀ x H',(Itr lo n).yld i H x H'→g x σ H' fun σ2 H2=>tb { D with nx:=N,ct:=N,bk:=D.nx } σ2 H2):=by
  refine ⟨fun i m σ H=>m = n - i∧i≤n∧Pv i σ H,⟨n,by simp,Nat.zero_le _,h0⟩,?_⟩
  rintro i m σ H ⟨rfl,hi,p⟩
  by_cases hlt:i < n
  · refine .inr ⟨hlt,Pv (i + 1),fun σ' H' p'=>⟨n - (i + 1),by omega,rfl,hlt,p'⟩,fun x H' y=>?_⟩
    obtain ⟨e,y⟩:=y
    subst e y
    exact hs i σ _ hlt p
  · have e:i = n:=by omega
    subst e
    exact .inl ⟨Nat.le_refl _,hd σ H p⟩
end L2
namespace L2
open PySem PySem.Spec PyProof.Rows
abbrev R2:=V→V→Hp→VK→Prop
def OpR (X:Cx) (f:Value→Value→Sem Value) (r:R2):Prop :=
  ∀ (pins:List (Addr × Obj)) (s:Shared) (σ:St) (H:Hp) (x y:V) (v u:Value) (Q:VK),Inv X pins σ H s→RelV x v→RelV y u→r x y H Q →
    wpAny (model X.prog X.w) X.A (f v u) (EP X pins σ Q) X.xe s
def UnR (X:Cx) (f:Value→Sem Value) (r:V→Hp→VK→Prop):Prop :=
  ∀ (pins:List (Addr × Obj)) (s:Shared) (σ:St) (H:Hp) (x:V) (v:Value) (Q:VK),Inv X pins σ H s→RelV x v→r x H Q →
    wpAny (model X.prog X.w) X.A (f v) (EP X pins σ Q) X.xe s
def CallR (X:Cx) (f:Value) (r:List V→Hp→VK→Prop):Prop :=
  ∀ (pins:List (Addr × Obj)) (s:Shared) (σ:St) (H:Hp) (xs:List V) (us:List Value) (Q:VK),Inv X pins σ H s→Vals xs us→r xs H Q →
    wpAny (model X.prog X.w) X.A (call f us) (EP X pins σ Q) X.xe s
def TruR (X:Cx) (r:V→Hp→(Bool→Hp→Prop)→Prop):Prop :=
  ∀ (pins:List (Addr × Obj)) (s:Shared) (σ:St) (H:Hp) (x:V) (v:Value) (Q:Bool→Hp→Prop),Inv X pins σ H s→RelV x v→r x H Q →
    wpAny (model X.prog X.w) X.A (truthy v) (TP X pins σ Q) X.xe s
def tOp (r:R2) (ta tb:TE):TE:=fun σ H Q=>ta σ H fun x H1=>tb σ H1 fun y H2=>r x y H2 Q
def tUn (r:V→Hp→VK→Prop) (ta:TE):TE:=fun σ H Q=>ta σ H fun x H1=>r x H1 Q
def rI (C:Int→Int→Prop) (g:Int→Int→V):R2:=fun x y H Q=>∃ i j,x = .int i∧y = .int j∧C i j∧Q (g i j) H
def rI0 (g:Int→Int→V):R2:=fun x y H Q=>∃ i j,x = .int i∧y = .int j∧Q (g i j) H
def rU (g:Int→V):V→Hp→VK→Prop:=fun x H Q=>∃ i,x = .int i∧Q (g i) H
section
variable {X:Cx} {a b c:Expr} {ta tb tc:TE} {pos:Pos}
theorem binT (ha:PE X a ta) (hb:PE X b tb) {pins:List (Addr × Obj)} {s:Shared} {σ:St} {H:Hp} {R:V→V→Hp→Prop} (I:Inv X pins σ H s)
    (h:ta σ H fun x H1=>tb σ H1 fun y H2=>R x y H2) {Q:Value→Shared→Prop} {f:Value→Value→Sem Value}
    (hf:∀ v u s2 x y H2,Inv X pins σ H2 s2→RelV x v→RelV y u→R x y H2→wpAny (model X.prog X.w) X.A (f v u) Q X.xe s2) :
    wpAny (model X.prog X.w) X.A (eval a X.env) (fun v s₁=>wpAny (model X.prog X.w) X.A (eval b X.env) (fun u s₂=>wpAny (model X.prog X.w) X.A (f v u) Q X.xe s₂) X.xe s₁) X.xe s:=by
  refine thn (ha pins s σ H _ I h) fun v s1 ⟨x,H1,I1,r1,q1⟩=>?_
  refine thn (hb pins s1 σ H1 _ I1 q1) fun u s2 ⟨y,H2,I2,r2,q2⟩=>?_
  exact hf v u s2 x y H2 I2 r1 r2 q2
theorem pe_op {op:Operator} {r:R2} (ho:OpR X (binaryOp op) r) (ha:PE X a ta) (hb:PE X b tb):PE X (.BinOp a op b pos) (tOp r ta tb):=by
  intro pins s σ H Q I h
  exact wpAny_BinOp (binT ha hb I h fun v u s2 x y H2 I2 rx ry q=>ho pins s2 σ H2 x y v u Q I2 rx ry q)
theorem pe_un {op:UnaryOp} {r:V→Hp→VK→Prop} (ho:UnR X (unaryOp op) r) (ha:PE X a ta):PE X (.UnaryOp op a pos) (tUn r ta):=by
  intro pins s σ H Q I h
  exact UnaryOp_ (thn (ha pins s σ H _ I h) fun v s1 ⟨x,H1,I1,r1,q1⟩=>ho pins s1 σ H1 x v Q I1 r1 q1)
theorem opI {f:Value→Value→Sem Value} {C:Int→Int→Prop} {g:Int→Int→Int}
    (rule:∀ (i j:Int) (t u:Tok) (s:Shared) (Q:Value→Shared→Prop) (E:Value→Shared→Prop),C i j→Q (.int (g i j) s.toks) { s with toks:=s.toks + 1 }→wpAny (model X.prog X.w) X.A (f (.int i t) (.int j u)) Q E s) :
    OpR X f (rI C fun i j=>.int (g i j)):=by
  intro pins s σ H x y v u Q I rx ry h
  obtain ⟨i,j,rfl,rfl,hc,q⟩:=h
  obtain ⟨t,rfl⟩:=rx
  obtain ⟨t',rfl⟩:=ry
  exact rule i j t t' s _ _ hc ⟨.int (g i j),H,I.tok _,⟨_,rfl⟩,q⟩
theorem opI0 {f:Value→Value→Sem Value} {g:Int→Int→Int}
    (rule:∀ (i j:Int) (t u:Tok) (s:Shared) (Q:Value→Shared→Prop) (E:Value→Shared→Prop),Q (.int (g i j) s.toks) { s with toks:=s.toks + 1 }→wpAny (model X.prog X.w) X.A (f (.int i t) (.int j u)) Q E s) :
    OpR X f (rI0 fun i j=>.int (g i j)):=by
  intro pins s σ H x y v u Q I rx ry h
  obtain ⟨i,j,rfl,rfl,q⟩:=h
  obtain ⟨t,rfl⟩:=rx
  obtain ⟨t',rfl⟩:=ry
  exact rule i j t t' s _ _ ⟨.int (g i j),H,I.tok _,⟨_,rfl⟩,q⟩
theorem opB0 {f:Value→Value→Sem Value} {g:Int→Int→Bool}
    (rule:∀ (i j:Int) (t u:Tok) (s:Shared) (Q:Value→Shared→Prop) (E:Value→Shared→Prop),Q (.bool (g i j)) s→wpAny (model X.prog X.w) X.A (f (.int i t) (.int j u)) Q E s) :
    OpR X f (rI0 fun i j=>.bl (g i j)):=by
  intro pins s σ H x y v u Q I rx ry h
  obtain ⟨i,j,rfl,rfl,q⟩:=h
  obtain ⟨t,rfl⟩:=rx
  obtain ⟨t',rfl⟩:=ry
  exact rule i j t t' s _ _ ⟨.bl (g i j),H,I,rfl,q⟩
def CDiv (i j:Int):Prop:=0 < j∧j < 1073741824
def CPow (i j:Int):Prop:=0≤j∧j≤1000000∧i.natAbs < 2 ^ 64
theorem two_pow_nn (k:Nat):(0:Int)≤2 ^ k:=by
  rw [two_pow_cast]
  exact Int.natCast_nonneg _
theorem op_add:OpR X (binaryOp .Add) (rI0 fun i j=>.int (i + j)):=opI0 fun _ _ _ _ _ _ _ q=>add_int q
theorem op_sub:OpR X (binaryOp .Sub) (rI0 fun i j=>.int (i - j)):=opI0 fun _ _ _ _ _ _ _ q=>sub_int q
theorem op_fdiv:OpR X (binaryOp .FloorDiv) (rI CDiv fun i j=>.int (i / j)):=opI fun i j _ _ _ _ _ hc q=>by
  have h1:(0:Int) < j:=hc.1
  have h2:j < 1073741824:=hc.2
  exact floordiv_int (by omega) (by rw [Int.fdiv_eq_ediv_of_nonneg i (by omega)]; exact q) (.inl (PyProof.noPylong_small (by omega)))
theorem op_mod:OpR X (binaryOp .Mod) (rI (fun _ j=>0 < j) fun i j=>.int (i % j)):=opI fun i j _ _ _ _ _ hc q=>by
  have h1:(0:Int) < j:=hc
  exact mod_int' (by omega) (by rw [Int.fmod_eq_emod_of_nonneg i (by omega)]; exact q)
theorem op_pow:OpR X (binaryOp .Pow) (rI CPow fun i j=>.int (i ^ j.toNat)):=opI fun _ _ _ _ _ _ _ hc q=>pow_int_small hc.1 hc.2.1 hc.2.2 q
theorem op_shr:OpR X (binaryOp .RShift) (rI (fun _ j=>0≤j) fun i j=>.int (i / 2 ^ j.toNat)):=opI fun i j _ _ _ _ _ hc q =>
  rshift_int hc (by rw [Int.fdiv_eq_ediv_of_nonneg i (two_pow_nn _)]; exact q)
theorem op_and:OpR X (binaryOp .BitAnd) (rI0 fun i j=>.int (Builtin.bitAnd i j)):=opI0 fun _ _ _ _ _ _ _ q=>and_int q
theorem op_or:OpR X (binaryOp .BitOr) (rI0 fun i j=>.int (Builtin.bitOr i j)):=opI0 fun _ _ _ _ _ _ _ q=>or_int q
theorem op_xor:OpR X (binaryOp .BitXor) (rI0 fun i j=>.int (Builtin.bitXor i j)):=opI0 fun _ _ _ _ _ _ _ q=>xor_int q
theorem iop_add:OpR X (inplaceOp .Add) (rI0 fun i j=>.int (i + j)):=opI0 fun _ _ _ _ _ _ _ q=>iadd_int q
theorem unI {f:Value→Sem Value} {g:Int→Int}
    (rule:∀ (i:Int) (t:Tok) (s:Shared) (Q:Value→Shared→Prop) (E:Value→Shared→Prop),Q (.int (g i) s.toks) { s with toks:=s.toks + 1 }→wpAny (model X.prog X.w) X.A (f (.int i t)) Q E s) :
    UnR X f (rU fun i=>.int (g i)):=by
  intro pins s σ H x v Q I rx h
  obtain ⟨i,rfl,q⟩:=h
  obtain ⟨t,rfl⟩:=rx
  exact rule i t s _ _ ⟨.int (g i),H,I.tok _,⟨_,rfl⟩,q⟩
theorem un_neg:UnR X (unaryOp .USub) (rU fun i=>.int (-i)):=unI fun _ _ _ _ _ q=>neg_int q
end
def scal:V→V→Bool
  | .non,.non=>true | .non,.int _=>true | .int _,.non=>true | .non,.bl _=>true | .bl _,.non=>true | .non,.str _=>true | .str _,.non=>true
  | .int _,.int _=>true | .bl _,.bl _=>true | .str _,.str _=>true | .byt _,.byt _=>true
  | .int _,.str _=>true | .str _,.int _=>true | .bl _,.str _=>true | .str _,.bl _=>true
  | _,_=>false
def rEq:R2:=fun x y H Q=>scal x y = true∧Q (.bl (decide (x = y))) H
def rNe:R2:=fun x y H Q=>scal x y = true∧Q (.bl (!decide (x = y))) H
theorem dec_int {i j:Int}:decide (V.int i = V.int j) = (i == j):=by
  rw [Bool.eq_iff_iff]
  simp
theorem dec_bl {i j:Bool}:decide (V.bl i = V.bl j) = (i == j):=by
  rw [Bool.eq_iff_iff]
  simp
theorem dec_str {i j:Str}:decide (V.str i = V.str j) = (i == j):=by
  rw [Bool.eq_iff_iff]
  simp
theorem dec_byt {i j:Array UInt8}:decide (V.byt i = V.byt j) = (i.toList == j.toList):=by
  rw [Bool.eq_iff_iff]
  cases i
  cases j
  simp
section
variable {X:Cx} {a b c:Expr} {ta tb tc:TE} {pos:Pos}
theorem fin_bl {pins:List (Addr × Obj)} {σ:St} {H:Hp} {s:Shared} {Q:VK} {k k':Bool} (I:Inv X pins σ H s) (q:Q (.bl k) H) (e:k = k'):EP X pins σ Q (.bool k') s:=by
  subst e
  exact ⟨.bl k,H,I,rfl,q⟩
theorem op_eq:OpR X (compareOp .Eq) rEq:=by
  intro pins s σ H x y v u Q I rx ry h
  obtain ⟨hs,q⟩:=h
  cases x with
  | non =>
    cases rx
    cases y with
    | non=>cases ry; exact PySem.EqNone.eq_none_none (fin_bl I q (by simp))
    | bl j=>cases ry; exact PySem.EqNone.eq_none_bool (fin_bl I q (by simp))
    | int j=>obtain ⟨t',rfl⟩:=ry; exact PySem.EqNone.eq_none_int (fin_bl I q (by simp))
    | str j=>obtain ⟨t',rfl⟩:=ry; exact PySem.EqNone.eq_none_str (fin_bl I q (by simp))
    | _=>exact absurd (show false = true from hs) Bool.false_ne_true
  | bl i =>
    cases rx
    cases y with
    | non=>cases ry; exact PySem.EqNone.eq_bool_none (fin_bl I q (by simp))
    | bl j=>cases ry; exact eq_bool (fin_bl I q dec_bl)
    | str j=>obtain ⟨t',rfl⟩:=ry; exact PySem.EqMixed.eq_bool_str (fin_bl I q (by simp))
    | _=>exact absurd (show false = true from hs) Bool.false_ne_true
  | int i =>
    obtain ⟨t,rfl⟩:=rx
    cases y with
    | non=>cases ry; exact PySem.EqNone.eq_int_none (fin_bl I q (by simp))
    | int j=>obtain ⟨t',rfl⟩:=ry; exact eq_int (fin_bl I q dec_int)
    | str j=>obtain ⟨t',rfl⟩:=ry; exact PySem.EqMixed.eq_int_str (fin_bl I q (by simp))
    | _=>exact absurd (show false = true from hs) Bool.false_ne_true
  | str i =>
    obtain ⟨t,rfl⟩:=rx
    cases y with
    | non=>cases ry; exact PySem.EqNone.eq_str_none (fin_bl I q (by simp))
    | bl j=>cases ry; exact PySem.EqMixed.eq_str_bool (fin_bl I q (by simp))
    | int j=>obtain ⟨t',rfl⟩:=ry; exact PySem.EqMixed.eq_str_int (fin_bl I q (by simp))
    | str j=>obtain ⟨t',rfl⟩:=ry; exact eq_str (fin_bl I q dec_str)
    | _=>exact absurd (show false = true from hs) Bool.false_ne_true
  | byt i =>
    obtain ⟨t,rfl⟩:=rx
    cases y with
    | byt j=>obtain ⟨t',rfl⟩:=ry; exact PySem.W.eq_bytes (fin_bl I q dec_byt)
    | _=>exact absurd (show false = true from hs) Bool.false_ne_true
  | _=>cases y <;> exact absurd (show false = true from hs) Bool.false_ne_true
theorem op_ne:OpR X (compareOp .NotEq) rNe:=by
  intro pins s σ H x y v u Q I rx ry h
  obtain ⟨hs,q⟩:=h
  cases x with
  | non =>
    cases rx
    cases y with
    | non=>cases ry; exact PySem.EqNone.ne_none_none (fin_bl I q (by simp))
    | bl j=>cases ry; exact PySem.EqNone.ne_none_bool (fin_bl I q (by simp))
    | int j=>obtain ⟨t',rfl⟩:=ry; exact PySem.EqNone.ne_none_int (fin_bl I q (by simp))
    | str j=>obtain ⟨t',rfl⟩:=ry; exact PySem.EqNone.ne_none_str (fin_bl I q (by simp))
    | _=>exact absurd (show false = true from hs) Bool.false_ne_true
  | bl i =>
    cases rx
    cases y with
    | non=>cases ry; exact PySem.EqNone.ne_bool_none (fin_bl I q (by simp))
    | bl j=>cases ry; exact ne_bool (fin_bl I q (congrArg not dec_bl))
    | str j=>obtain ⟨t',rfl⟩:=ry; exact PySem.EqMixed.ne_bool_str (fin_bl I q (by simp))
    | _=>exact absurd (show false = true from hs) Bool.false_ne_true
  | int i =>
    obtain ⟨t,rfl⟩:=rx
    cases y with
    | non=>cases ry; exact PySem.EqNone.ne_int_none (fin_bl I q (by simp))
    | int j=>obtain ⟨t',rfl⟩:=ry; exact ne_int (fin_bl I q (congrArg not dec_int))
    | str j=>obtain ⟨t',rfl⟩:=ry; exact PySem.EqMixed.ne_int_str (fin_bl I q (by simp))
    | _=>exact absurd (show false = true from hs) Bool.false_ne_true
  | str i =>
    obtain ⟨t,rfl⟩:=rx
    cases y with
    | non=>cases ry; exact PySem.EqNone.ne_str_none (fin_bl I q (by simp))
    | bl j=>cases ry; exact PySem.EqMixed.ne_str_bool (fin_bl I q (by simp))
    | int j=>obtain ⟨t',rfl⟩:=ry; exact PySem.EqMixed.ne_str_int (fin_bl I q (by simp))
    | str j=>obtain ⟨t',rfl⟩:=ry; exact ne_str (fin_bl I q (congrArg not dec_str))
    | _=>exact absurd (show false = true from hs) Bool.false_ne_true
  | byt i =>
    obtain ⟨t,rfl⟩:=rx
    cases y with
    | byt j=>obtain ⟨t',rfl⟩:=ry; exact PySem.W.ne_bytes (fin_bl I q (congrArg not dec_byt))
    | _=>exact absurd (show false = true from hs) Bool.false_ne_true
  | _=>cases y <;> exact absurd (show false = true from hs) Bool.false_ne_true
theorem op_lt:OpR X (compareOp .Lt) (rI0 fun i j=>.bl (decide (i < j))):=opB0 fun _ _ _ _ _ _ _ q=>lt_int q
theorem op_gt:OpR X (compareOp .Gt) (rI0 fun i j=>.bl (decide (j < i))):=opB0 fun _ _ _ _ _ _ _ q=>gt_int q
theorem op_isN:OpR X (compareOp .Is) (fun x y H Q=>y = .non∧Q (.bl (decide (x = .non))) H):=by
  intro pins s σ H x y v u Q I rx ry h
  obtain ⟨rfl,q⟩:=h
  cases ry
  refine is_none_gen (fin_bl I q ?_)
  cases x <;> first
    | (cases rx; rfl)
    | (obtain ⟨t,rfl⟩:=rx; rfl)
theorem op_notN:OpR X (compareOp .IsNot) (fun x y H Q=>y = .non∧Q (.bl (!decide (x = .non))) H):=by
  intro pins s σ H x y v u Q I rx ry h
  obtain ⟨rfl,q⟩:=h
  cases ry
  refine isnot_none_gen (fin_bl I q ?_)
  cases x <;> first
    | (cases rx; rfl)
    | (obtain ⟨t,rfl⟩:=rx; rfl)
theorem nomark (b:Expr) {op:CmpOp} (h:op≠.In:=by decide) (h2:op≠.NotIn:=by decide):behindInMarks op b = false:=by
  have e1:(op == CmpOp.In) = false:=by cases op <;> first | rfl | exact absurd rfl h
  have e2:(op == CmpOp.NotIn) = false:=by cases op <;> first | rfl | exact absurd rfl h2
  cases b <;> simp [behindInMarks,e1,e2]
theorem pe_cmpR {op:CmpOp} {r:R2} (ho:OpR X (compareOp op) r) (ha:PE X a ta) (hb:PE X b tb) (hm:behindInMarks op b = false):PE X (.Compare a [op] [b] pos) (tOp r ta tb):=by
  intro pins s σ H Q I h
  exact wpAny_Compare1 (binT ha hb I h fun v u s2 x y H2 I2 rx ry q=>ho pins s2 σ H2 x y v u Q I2 rx ry q) hm
inductive OneB (x:V) (k:Bool→Prop):Prop
  | mk (c:Bool) (_:x = .bl c) (_:k c):OneB x k
def tTest (t:TE):TT:=fun σ H Q=>t σ H fun x H'=>OneB x fun k=>Q k H'
theorem pt_cmpR {op:CmpOp} {r:R2} (ho:OpR X (compareOp op) r) (ha:PE X a ta) (hb:PE X b tb) (hm:behindInMarks op b = false):PT X (.Compare a [op] [b] pos) (tTest (tOp r ta tb)):=by
  intro pins s σ H Q I h
  refine wpAny_isTrue_Compare1 (thn (ha pins s σ H _ I h) fun v s1 ⟨x,H1,I1,r1,q1⟩=>thn (hb pins s1 σ H1 _ I1 q1) fun u s2 ⟨y,H2,I2,r2,q2⟩ =>
    thn (ho pins s2 σ H2 x y v u _ I2 r1 r2 q2) fun c s3 ⟨z,H3,I3,r3,k,e,q3⟩=>?_) hm
  subst e
  cases r3
  exact wpAny_truthy_bool ⟨H3,I3,q3⟩
def TruV (K:PySem.W.Frag) (x:V) (H:Hp) (k:Bool):Prop :=
  match x with
  | .non=>k = false
  | .bl b=>k = b
  | .int i=>k = (i != 0)
  | .str y=>y.length≤sizeLine∧k = ((y.length:Int) != 0)
  | .byt y=>y.size≤sizeLine∧k = ((y.size:Int) != 0)
  | .ref p=>(∃ xs,SqL K H p xs∧k = !xs.isEmpty)∨(∃ xs,SqT K H p xs∧k = !xs.isEmpty)∨∃ kvs,H p = some (.dK kvs)∧k = !kvs.isEmpty
  | _=>False
theorem isEmpty_kv {κ:Type} {kvs:List (κ × V)} {vs:List (κ × Value)} (r:KV kvs vs):(!vs.isEmpty) = !kvs.isEmpty:=by
  cases r <;> rfl
theorem isEmpty_of {xs:List V} {its:List Value} (r:Vals xs its):(!its.toArray.isEmpty) = !xs.isEmpty:=by
  cases r <;> simp
theorem line63:(sizeLine:Nat) < 2 ^ 63:=by rw [sizeLine_eq]; decide
theorem tru_ok:TruR X (fun x H Q=>∃ k,TruV X.K x H k∧Q k H):=by
  intro pins s σ H x v Q I rx h
  obtain ⟨k,e,q⟩:=h
  have hl:=line63
  have hs:sizeLine = 16777216:=sizeLine_eq
  cases x with
  | non =>
    cases rx
    have e':k = false:=e
    subst e'
    exact truthy_none ⟨H,I,q⟩
  | bl b =>
    cases rx
    have e':k = b:=e
    subst e'
    exact wpAny_truthy_bool ⟨H,I,q⟩
  | int i =>
    obtain ⟨t,rfl⟩:=rx
    have e':k = (i != 0):=e
    subst e'
    exact PySem.P.truthy_int ⟨H,I,q⟩
  | str y =>
    obtain ⟨t,rfl⟩:=rx
    obtain ⟨hy,e'⟩:y.length≤sizeLine∧k = ((y.length:Int) != 0):=e
    subst e'
    exact PySem.P.truthy_str (by omega) ⟨H,I.tok _,q⟩
  | byt y =>
    obtain ⟨t,rfl⟩:=rx
    obtain ⟨hy,e'⟩:y.size≤sizeLine∧k = ((y.size:Int) != 0):=e
    subst e'
    exact PySem.W.truthy_bytes (by omega) ⟨H,I.tok _,q⟩
  | ref p =>
    cases rx
    have e':(∃ xs,SqL X.K H p xs∧k = !xs.isEmpty)∨(∃ xs,SqT X.K H p xs∧k = !xs.isEmpty)∨∃ kvs,H p = some (.dK kvs)∧k = !kvs.isEmpty:=e
    rcases e' with ⟨xs,hx,e'⟩ | ⟨xs,hx,e'⟩ | ⟨kvs,hx,e'⟩
    · subst e'
      obtain ⟨its,r,pl,hz⟩:=I.list hx
      have hlen:=r.length
      exact wpAny_truthy_list pl.isList (by simp only [List.size_toArray]; omega) ⟨H,I.tok _,by rw [isEmpty_of r]; exact q⟩
    · subst e'
      obtain ⟨its,r,pl,hz⟩:=I.tuple hx
      have hlen:=r.length
      exact truthy_tuple pl (by simp only [List.size_toArray]; omega) ⟨H,I.tok _,by rw [isEmpty_of r]; exact q⟩
    · subst e'
      obtain ⟨hz,hS,vs,r,m⟩:kvs.length≤sizeLine∧(p == sysModules) = false∧∃ vs,KV kvs vs∧s.heap.DictOf (mixKind X.prog X.w) p vs:=I.hok p _ hx
      have hlen:kvs.length = vs.length:=Paired.length r
      exact wpAny_truthy_dict hS m (by omega) ⟨H,I.tok _,by rw [isEmpty_kv r]; exact q⟩
  | _=>exact (show False from e).elim
theorem pt_truth (ha:PE X a ta) (he:∀ whole,isTrue a X.env whole = (do let v ← whole; standAt a.pos; holding [v] (truthy v))) :
    PT X a (fun σ H Q=>ta σ H fun x H'=>∃ k,TruV X.K x H' k∧Q k H'):=by
  intro pins s σ H Q I h
  exact isTrue_plain (thn (ha pins s σ H _ I h) fun v s1 ⟨x,H1,I1,r1,q1⟩=>tru_ok pins s1 σ H1 x v Q I1 r1 q1) (he _)
theorem vals1 {x:V} {us:List Value} (r:Vals [x] us):∃ u,us = [u]∧RelV x u:=by
  cases r with
  | cons r1 r2=>cases r2; exact ⟨_,rfl,r1⟩
theorem vals2 {x y:V} {us:List Value} (r:Vals [x,y] us):∃ u w',us = [u,w']∧RelV x u∧RelV y w':=by
  cases r with
  | cons r1 r2 =>
    cases r2 with
    | cons r3 r4=>cases r4; exact ⟨_,_,rfl,r1,r3⟩
end
end L2
namespace L2
open PySem PySem.Spec PyProof.Rows
structure ObjM (h:Heap) (x dx C:Addr) (mA:Str→Option Value):Prop where
  obj:h.get? x = some (PySem.W.instObj C dx)
  ns:h.Ns1 dx mA
  ne:dx≠x
theorem lookIn_ns {h:Heap} {dx:Addr} {mA:Str→Option Value} (n:h.Ns1 dx mA):∃ od,h.get? dx = some od∧∀ name,PySem.W.lookIn name od = some (mA name):=by
  obtain ⟨o,es,ep,ho,hd,hk,_,hm⟩:=n
  refine ⟨o,ho,fun name=>?_⟩
  have e:=hm name
  unfold nsFind findBy at e
  rw [← Array.find?_toList] at e
  unfold PySem.W.lookIn
  rw [hd]
  dsimp only
  split
  · rename_i y q
    rw [q] at e
    exact congrArg some e
  · rename_i q
    rw [q] at e
    have a:es.toList.any (·.refKey) = false:=by
      rw [List.any_eq_false]
      intro y hy
      obtain ⟨z,t,hkey⟩:=hk y (Array.mem_toList_iff.mp hy)
      simp [DictEntry.refKey,hkey]
    have a':¬ es.toList.any (·.refKey) = true:=by rw [a]; exact Bool.false_ne_true
    rw [if_neg a']
    exact congrArg some e
theorem ObjM.look {h:Heap} {x dx C:Addr} {mA:Str→Option Value} (I:ObjM h x dx C mA):∃ od,PySem.W.InstAt h x (PySem.W.instObj C dx) C (some od)∧∀ name,PySem.W.lookIn name od = some (mA name) :=
  let ⟨od,ho,hl⟩:=lookIn_ns I.ns
  ⟨od,⟨I.obj,rfl,rfl,ho⟩,hl⟩
section
variable {prog:Program} {w:World} {A:Around} {E:Value→Shared→Prop} {s:Shared} {K:PySem.W.Frag} {x dx C f:Addr} {mA:Str→Option Value} {name:Str} {v:Value}
theorem get_map {expr:Bool} {Q:Value→Shared→Prop} (X:K.In s.heap) (I:ObjM s.heap x dx C mA) (hg:PySem.W.plainGet K C name = true) (hh:PySem.W.hasDictIn K C = true)
    (ha:PySem.W.findIn K (.ref C) name = some none) (hv:mA name = some v) (hv':PySem.W.handedIn v = true) (h:Q v { s with toks:=s.toks + 1 }) :
    wpAny (model prog w) A (getAttr (.ref x) name expr) Q E s:=by
  obtain ⟨od,J,hl⟩:=I.look
  exact PySem.W.get_value X J (PySem.W.plainGet_of hg).1 (PySem.W.findObj_own hh ha rfl (by rw [hl,hv])) hv' h
theorem get_meth {pl:Sem Bool} {Q:Value × List Value→Shared→Prop} (X:K.In s.heap) (I:ObjM s.heap x dx C mA) (hg:PySem.W.plainGet K C name = true)
    (hf:PySem.W.findIn K (.ref C) name = some (some (.ref f))) (ht:PySem.W.isFn K (.ref f) = true) (hv:mA name = none) (h:Q (.ref f,[.ref x]) s) :
    wpAny (model prog w) A (getMethod (.ref x) name pl) Q E s:=by
  obtain ⟨od,J,hl⟩:=I.look
  exact PySem.W.method_fn X J (PySem.W.plainGet_of hg).1 (PySem.W.plainGet_of hg).2 hf (beq_iff_eq.mp ht) (by show (PySem.W.lookIn name od).map (·.isSome) = some false; rw [hl,hv]; rfl) h
theorem set_map {ns:List Str} {Q:Unit→Shared→Prop} (X:K.In s.heap) (I:ObjM s.heap x dx C mA)
    (hs:PySem.W.findIn K (.ref C) "__setattr__" = some (some (.builtin "object.__setattr__"))) (hp:PySem.W.plainOver K C = true) (ht:PySem.W.takerIn K C name = some none) (hh:PySem.W.hasDictIn K C = true)
    (hw:PySem.Within mA ns) (hsz:ns.length≤sizeLine)
    (h:∀ h',ObjM h' x dx C (fun y=>if y = name then some v else mA y)→Heap.SameBut dx s.heap h'→Q () { s with heap:=h',toks:=s.toks + 2 }) :
    wpAny (model prog w) A (setAttr (.ref x) name v) Q E s:=by
  obtain ⟨od,J,hl⟩:=I.look
  refine PySem.W.set_plain X J hs (PySem.W.osa_open (s:={ s with toks:=s.toks + 1 }) (r:=none) X J hp ht fun b=>?_)
  obtain ⟨cd,hc,hd'⟩:=PySem.W.any_some hh
  have hx:s.heap.get? x = some ⟨.ref C,some dx,.plain,#[]⟩:=I.obj
  refine wpAny_bind (wpAny_pure (wpAny_bind (wpAny_bind (wpAny_loadPart hx (wpAny_bind (PySem.W.Looks.here (s:={ s with toks:=s.toks + 1 }) (PySem.W.looks_clsIn X hc) ?_))))))
  rw [hd']
  refine wpAny_pure (a:=some dx) (wpAny_bind (wpAny_pure (wpAny_bind ?_)))
  refine wpAny_nsSet1 (s:={ s with toks:=s.toks + 1 }) I.ns fun h' hn2 hs2=>?_
  obtain ⟨oD,esD,epD,hoD,hdD,hcD⟩:=hn2.count (PySem.Within.cons name v hw)
  refine wpAny_bind (wpAny_lookBehind hoD (by rw [hdD]; exact pastItsLine_dict (Nat.le_trans hcD (by rw [List.length_cons]; omega))) ?_)
  exact wpAny_pure (h _ ⟨(hs2.2 _ (Ne.symm I.ne)).trans I.obj,hn2,I.ne⟩ hs2)
theorem make_map {R:Result→Shared→Prop} {vs:List Value} {kw:List (Str × Value)} (X:K.In s.heap) (hm:PySem.W.makesIn K C = true)
    (hi:PySem.W.findIn K (.ref C) "__init__" = some (some (.ref f))) (hf:PySem.W.typeIn K (.ref f) = some (.type "function"))
    (h:codeAny (model prog w) (A.under (.builtin "type.__call__" ⟨.ref C :: vs,kw⟩)) (.call (.ref f) ⟨.ref (s.heap.objs.size + 1) :: vs,kw⟩) (PySem.W.InitBack (s.heap.objs.size + 1) R)
      { s with heap:=(s.heap.push PySem.W.emptyDict).push (PySem.W.instObj C s.heap.objs.size) }) :
    codeAny (model prog w) A (.call (.ref C) ⟨vs,kw⟩) R s:=by
  obtain ⟨hh,g,d,t,os⟩:=s
  exact PySem.W.make_core (PySem.W.makes_of X hm) (PySem.W.looks_findIn X hi) (fun self=>PySem.W.bind_fn X self hf) (.inl rfl) h
end
def putF (f:Str) (v:V):List (Str × V)→List (Str × V)
  | []=>[(f,v)]
  | (g,x) :: r=>if g = f then (g,v) :: r else (g,x) :: putF f v r
theorem lookup_putF (f g:Str) (v:V):∀ fs:List (Str × V),(putF f v fs).lookup g = if g = f then some v else fs.lookup g
  | []=>by
    show List.lookup g [(f,v)] = _
    by_cases h:g = f
    · have hb:(g == f) = true:=beq_iff_eq.mpr h
      simp only [List.lookup,hb,if_pos h]
    · have hb:(g == f) = false:=beq_eq_false_iff_ne.mpr h
      simp only [List.lookup,hb,if_neg h]
  | (k,x) :: r=>by
    have ih:=lookup_putF f g v r
    rw [show putF f v ((k,x) :: r) = (if k = f then (k,v) :: r else (k,x) :: putF f v r) from rfl]
    by_cases hk:k = f
    · rw [if_pos hk]
      by_cases h:g = k
      · have hb:(g == k) = true:=beq_iff_eq.mpr h
        simp only [List.lookup,hb,if_pos (h.trans hk)]
      · have hb:(g == k) = false:=beq_eq_false_iff_ne.mpr h
        simp only [List.lookup,hb,if_neg (fun e:g = f=>h (e.trans hk.symm))]
    · rw [if_neg hk]
      by_cases h:g = k
      · have hb:(g == k) = true:=beq_iff_eq.mpr h
        simp only [List.lookup,hb,if_neg (fun e:g = f=>hk (h.symm.trans e))]
      · have hb:(g == k) = false:=beq_eq_false_iff_ne.mpr h
        simp only [List.lookup,hb]
        exact ih
theorem keys_putF (f:Str) (v:V):∀ fs:List (Str × V),f∈(putF f v fs).map (·.1)∧∀ g,g∈fs.map (·.1)→g∈(putF f v fs).map (·.1)
  | []=>⟨by simp [putF],fun g h=>by simp at h⟩
  | (k,x) :: r=>by
    obtain ⟨i1,i2⟩:=keys_putF f v r
    rw [show putF f v ((k,x) :: r) = (if k = f then (k,v) :: r else (k,x) :: putF f v r) from rfl]
    by_cases hk:k = f
    · rw [if_pos hk]
      subst hk
      exact ⟨by simp,fun g h=>by simpa using h⟩
    · rw [if_neg hk]
      refine ⟨?_,fun g h=>?_⟩
      · rw [List.map_cons]
        exact List.mem_cons_of_mem _ i1
      · rw [List.map_cons] at h ⊢
        rcases List.mem_cons.mp h with e | e
        · exact List.mem_cons.mpr (.inl e)
        · exact List.mem_cons_of_mem _ (i2 g e)
theorem length_putF (f:Str) (v:V):∀ fs:List (Str × V),(putF f v fs).length≤fs.length + 1
  | []=>by simp [putF]
  | (k,x) :: r=>by
    have ih:=length_putF f v r
    rw [show putF f v ((k,x) :: r) = (if k = f then (k,v) :: r else (k,x) :: putF f v r) from rfl]
    by_cases hk:k = f
    · rw [if_pos hk,List.length_cons,List.length_cons]; omega
    · rw [if_neg hk,List.length_cons,List.length_cons]; omega
theorem RelO.some_of {v:V} {o:Option Value} (r:RelO (some v) o):∃ u,o = some u∧RelV v u:=by
  cases o with
  | none=>exact (show False from r).elim
  | some u=>exact ⟨u,rfl,r⟩
theorem RelO.none_of {o:Option Value} (r:RelO none o):o = none:=by
  cases o with
  | none=>rfl
  | some u=>exact (show False from r).elim
theorem handed_of {v:V} {u:Value} (r:RelV v u):PySem.W.handedIn u = true:=by
  cases v with
  | non=>cases (show u = Value.none from r); rfl
  | bl b=>cases (show u = Value.bool b from r); rfl
  | int i=>obtain ⟨t,e⟩:=(show ∃ t,u = Value.int i t from r); cases e; rfl
  | str x=>obtain ⟨t,e⟩:=(show ∃ t,u = Value.str x t from r); cases e; rfl
  | byt b=>obtain ⟨t,e⟩:=(show ∃ t,u = Value.bytes b t from r); cases e; rfl
  | flt b=>obtain ⟨t,e⟩:=(show ∃ t,u = Value.float b t from r); cases e; rfl
  | ref a=>cases (show u = Value.ref a from r); rfl
  | ty n=>cases (show u = Value.type n from r); rfl
section
variable {P:Program} {w:World} {H H':Hp} {h h':Heap} {a C dx:Addr} {fs fs':List (Str × V)}
theorem ins_get (hok:HOk P w H h) (e:H a = some (.ins C dx fs)):∃ mA,ObjM h a dx C mA∧(∀ f,RelO (fs.lookup f) (mA f))∧PySem.Within mA (fs.map (·.1))∧fs.length≤1000∧H dx = some (.own a):=by
  obtain ⟨d,z,ne,ob,mA,n,r,q⟩:=(show ObjOk P w H h a (.ins C dx fs) from hok a _ e)
  exact ⟨mA,⟨ob,n,ne⟩,r,q,z,d⟩
end
structure Cls (K:PySem.W.Frag) (C:Addr):Prop where
  pg:PySem.W.plainGet K C Str.empty = true
  hd:PySem.W.hasDictIn K C = true
  po:PySem.W.plainOver K C = true
  sa:PySem.W.findIn K (.ref C) "__setattr__" = some (some (.builtin "object.__setattr__"))
theorem Cls.get {K:PySem.W.Frag} {C:Addr} (c:Cls K C) (f:Str):PySem.W.plainGet K C f = true:=c.pg
def NoAttr (K:PySem.W.Frag) (C:Addr) (f:Str):Prop:=PySem.W.findIn K (.ref C) f = some none
theorem NoAttr.taker {K:PySem.W.Frag} {C:Addr} {f:Str} (n:NoAttr K C f):PySem.W.takerIn K C f = some none:=by
  unfold PySem.W.takerIn
  rw [show PySem.W.findIn K (.ref C) f = some none from n]
  rfl
structure Meth (K:PySem.W.Frag) (C:Addr) (m:Str) (f:Addr):Prop where
  at_:PySem.W.findIn K (.ref C) m = some (some (.ref f))
  fn:PySem.W.isFn K (.ref f) = true
  kp:PySem.W.keepIn K (.ref f) = true
section
variable {X:Cx} {pins:List (Addr × Obj)} {σ:St} {H:Hp} {s:Shared} {a C dx:Addr} {fs:List (Str × V)} {f:Str} {v:V} {A:Around} {E:Value→Shared→Prop}
theorem getattr_ok {b:Bool} {Q:Value→Shared→Prop} (I:Inv X pins σ H s) (e:H a = some (.ins C dx fs)) (c:Cls X.K C) (n:NoAttr X.K C f) (l:fs.lookup f = some v)
    (h:∀ u s',Inv X pins σ H s'→RelV v u→Q u s'):wpAny (model X.prog X.w) A (getAttr (.ref a) f b) Q E s:=by
  obtain ⟨mA,O,r,_,_,_⟩:=ins_get I.hok e
  obtain ⟨u,hu,ru⟩:=RelO.some_of (v:=v) (o:=mA f) (by rw [← l]; exact r f)
  exact get_map I.kIn O (c.get f) c.hd n hu (handed_of ru) (h u _ (I.tok _) ru)
theorem getmeth_ok {m:Str} {g:Addr} {pl:Sem Bool} {Q:Value × List Value→Shared→Prop} (I:Inv X pins σ H s) (e:H a = some (.ins C dx fs)) (c:Cls X.K C) (k:Meth X.K C m g) (l:fs.lookup m = none)
    (h:Q (.ref g,[.ref a]) s):wpAny (model X.prog X.w) A (getMethod (.ref a) m pl) Q E s:=by
  obtain ⟨mA,O,r,_,_,_⟩:=ins_get I.hok e
  have hn:mA m = none:=RelO.none_of (by rw [← l]; exact r m)
  exact get_meth I.kIn O (c.get m) k.at_ k.fn hn h
theorem setattr_ok {y:V} {u:Value} {Q:Unit→Shared→Prop} (I:Inv X pins σ H s) (e:H a = some (.ins C dx fs)) (c:Cls X.K C) (n:NoAttr X.K C f) (hl:fs.length < 1000) (ry:RelV y u)
    (h:∀ s',Inv X pins σ (upd H a (.ins C dx (putF f y fs))) s'→Q () s'):wpAny (model X.prog X.w) A (setAttr (.ref a) f u) Q E s:=by
  obtain ⟨mA,O,r,wi,_,ho⟩:=ins_get I.hok e
  have hz:(fs.map (·.1)).length≤sizeLine:=by rw [List.length_map,sizeLine_eq]; omega
  refine set_map I.kIn O c.sa c.po n.taker c.hd wi hz fun h' O' sb=>h _ ?_
  have hd:∃ o,h'.get? dx = some o:=let ⟨o,_,_,e',_⟩:=O'.ns; ⟨o,e'⟩
  refine I.write (x:=a) (e:=dx) (by rw [e]; exact True.intro) (.inr ho) (fun b q hb z=>(sb.2 b hb).trans z) hd ?_
  refine ⟨by rw [upd_ne O.ne]; exact ho,?_,O.ne,O'.obj,_,O'.ns,fun g=>?_,fun g hg=>?_⟩
  · have:=length_putF f y fs; omega
  · show RelO ((putF f y fs).lookup g) (if g = f then some u else mA g)
    rw [lookup_putF]
    by_cases q:g = f
    · rw [if_pos q,if_pos q]; exact ry
    · rw [if_neg q,if_neg q]; exact r g
  · by_cases q:g = f
    · rw [q]; exact (keys_putF f y fs).1
    · refine (keys_putF f y fs).2 g (wi g fun z=>hg ?_)
      show (if g = f then some u else mA g) = none
      rw [if_neg q]; exact z
theorem Inv.made (I:Inv X pins σ H s):Inv X pins σ (upd (upd H s.heap.objs.size (.own (s.heap.objs.size + 1))) (s.heap.objs.size + 1) (.ins C s.heap.objs.size []))
    { s with heap:=(s.heap.push PySem.W.emptyDict).push (PySem.W.instObj C s.heap.objs.size) }:=by
  have e1:(s.heap.push PySem.W.emptyDict).get? s.heap.objs.size = some PySem.W.emptyDict:=Heap.get?_push_size s.heap rfl
  have e2:((s.heap.push PySem.W.emptyDict).push (PySem.W.instObj C s.heap.objs.size)).get? (s.heap.objs.size + 1) = some (PySem.W.instObj C s.heap.objs.size):=by
    have:=Heap.get?_push_size (s.heap.push PySem.W.emptyDict) (o:=PySem.W.instObj C s.heap.objs.size) rfl
    rwa [Heap.size_push] at this
  have e3:(s.heap.push PySem.W.emptyDict).Ns s.heap.objs.size (fun _=>none):=⟨PySem.W.emptyDict,#[],_,e1,rfl,(fun e he=>absurd he (by simp)),fun _=>rfl⟩
  have I1:=I.laid (a:=s.heap.objs.size) (o:=.own (s.heap.objs.size + 1)) (h':=s.heap.push PySem.W.emptyDict) (t':=s.toks) (fun b u q=>Heap.get?_push_of_some _ q) (Nat.le_refl _) ⟨_,e1⟩
  refine I1.laid (a:=s.heap.objs.size + 1) (o:=.ins C s.heap.objs.size []) (t':=s.toks) (fun b u q=>Heap.get?_push_of_some _ q) (Nat.le_of_eq (Heap.size_push _ _)) ?_
  have ne:s.heap.objs.size≠s.heap.objs.size + 1:=Nat.ne_of_lt (Nat.lt_succ_self _)
  refine ⟨by rw [upd_ne ne,upd_same],Nat.zero_le _,ne,e2,fun _=>none,(Heap.Ns1.of_empty e3).at fun o q=>Heap.get?_push_of_some _ q,fun _=>True.intro,fun y hy=>absurd rfl hy⟩
theorem attr_of {prog:Program} {w:World} {env:Env} {e:Expr} {f:Str} {pos:Pos} {s:Shared} {Q:Value→Shared→Prop} (hb:attributeBase e f env (eval e env) = eval e env)
    (h:wpAny (model prog w) A (eval e env) (fun o s₁=>wpAny (model prog w) A (getAttr o f true) Q E s₁) E s):wpAny (model prog w) A (eval (.Attribute e f pos) env) Q E s :=
  Attribute_any_ h (by rw [arm_eval_Attribute,hb])
end
def tFld (K:PySem.W.Frag) (ta:TE) (f:Str):TE:=fun σ H Q=>ta σ H fun x H1=>∃ a C dx fs v,x = .ref a∧H1 a = some (.ins C dx fs)∧Cls K C∧NoAttr K C f∧fs.lookup f = some v∧Q v H1
def sFld (K:PySem.W.Frag) (ta tv:TE) (f:Str):TS:=fun D σ H=>tv σ H fun y H1=>ta σ H1 fun x H2=>∃ a C dx fs,x = .ref a∧H2 a = some (.ins C dx fs)∧Cls K C∧NoAttr K C f∧fs.length < 1000 ∧
  D.nx σ (upd H2 a (.ins C dx (putF f y fs)))
section
variable {X:Cx} {o e value:Expr} {f:Str} {pos pos' tpos:Pos} {ta tv:TE}
theorem pe_fld (he:PE X e ta) (hb:attributeBase e f X.env (eval e X.env) = eval e X.env):PE X (.Attribute e f pos) (tFld X.K ta f):=by
  intro pins s σ H Q I h
  refine attr_of hb (thn (he pins s σ H _ I h) fun u s1 ⟨x,H1,I1,rx,a,C,dx,fs,v,ex,ea,c,n,l,q⟩=>?_)
  subst ex
  obtain rfl:u = Value.ref a:=rx
  exact getattr_ok I1 ea c n l fun u' s2 I2 ru=>⟨v,H1,I2,ru,q⟩
theorem ps_fld (ha:PE X o ta) (hv:PE X value tv) (hs:swapsWith value (some (.Attribute o f pos')) pos.line X.env = pure false):PS X (.Assign [.Attribute o f pos'] value pos) (sFld X.K ta tv f):=by
  intro pins s σ H D I h
  refine plainObj_wpAny_Assign_Attribute (thn (hv pins s σ H _ I h) fun u s1 ⟨y,H1,I1,ry,q⟩=>thn (ha pins s1 σ H1 _ I1 q) fun ov s2 ⟨x,H2,I2,rx,a,C,dx,fs,ex,ea,c,n,l,q2⟩=>?_) hs
  subst ex
  obtain rfl:ov = Value.ref a:=rx
  exact setattr_ok I2 ea c n l ry fun s3 I3=>⟨σ,_,I3,q2⟩
theorem methcall_of {pl:Sem Bool} {m:Str} {apos:Pos} {args:List Expr} {pins:List (Addr × Obj)} {s:Shared} {σ:St} {H:Hp} {Q:Value→Shared→Prop} {te:TE} (he:PE X e te) (I:Inv X pins σ H s)
    (h:te σ H fun x H1=>∃ a C dx fs g,x = .ref a∧H1 a = some (.ins C dx fs)∧Cls X.K C∧Meth X.K C m g∧fs.lookup m = none ∧
      ∀ s1,Inv X pins σ H1 s1→wpAny (model X.prog X.w) X.A (callWith pos (.ref g) [.ref a] (backTo pos (starEach args X.env)) (backToKw pos (keywordEach [] X.env))) Q X.xe s1)
    (ht:eval (.Call (.Attribute e m apos) args [] pos) X.env = (do
      let ov ← eval e X.env
      standAt apos.atName
      let (f,first) ← holding [ov] (getMethod ov m pl)
      callWith pos f first (backTo pos (starEach args X.env)) (backToKw pos (keywordEach [] X.env)))) :
    wpAny (model X.prog X.w) X.A (eval (.Call (.Attribute e m apos) args [] pos) X.env) Q X.xe s:=by
  refine PySem.W.methodCall_KW (pl:=pl) (thn (he pins s σ H _ I h) fun u s1 ⟨x,H1,I1,rx,a,C,dx,fs,g,ex,ea,c,k,l,q⟩=>?_) ht
  subst ex
  obtain rfl:u = Value.ref a:=rx
  exact getmeth_ok I1 ea c k l (q s1 I1)
end
section
variable {X:Cx} {pins:List (Addr × Obj)} {σ:St} {H:Hp} {s:Shared} {A:Around} {E:Value→Shared→Prop} {Q:Value→Shared→Prop} {c:Value} {b:Bool}
inductive TyOf (K:PySem.W.Frag) (H:Hp):V→Value→Prop where
  | non:TyOf K H .non (.type "NoneType")
  | bl (x:Bool):TyOf K H (.bl x) (.type "bool")
  | int (i:Int):TyOf K H (.int i) (.type "int")
  | str (x:Str):TyOf K H (.str x) (.type "str")
  | flt (x:UInt64):TyOf K H (.flt x) (.type "float")
  | lst {a:Addr} {xs:List V} (e:H a = some (.lst xs)):TyOf K H (.ref a) (.type "list")
  | frz {a:Addr} {o:Obj} {xs:List V} (e:H a = some (.frz o (.lst xs))):TyOf K H (.ref a) (.type "list")
  | tup {a:Addr} {xs:List V} (e:H a = some (.tup xs)):TyOf K H (.ref a) (.type "tuple")
  | dK {a:Addr} {kvs:List (Key × V)} (e:H a = some (.dK kvs)):TyOf K H (.ref a) (.type "dict")
  | dT {a:Addr} {kvs:List (List Key × V)} (e:H a = some (.dT kvs)):TyOf K H (.ref a) (.type "dict")
  | ins {a C dx:Addr} {fs:List (Str × V)} (e:H a = some (.ins C dx fs)) (cl:Cls K C) (ha:PySem.W.findIn K (.ref C) "__class__" = some (some (.builtin "object.__class__")))
      (hn:PySem.W.specialIn K (.builtin "object.__class__") "__get__" = some (some (.builtin "getset_descriptor.__get__"))) (htk:PySem.W.takesIn K (.builtin "object.__class__") = some true)
      (hm:PySem.W.mroIn K C (.type "object") = some true):TyOf K H (.ref a) (.ref C)
theorem isinst_ok {x:V} {u t:Value} (I:Inv X pins σ H s) (rx:RelV x u) (ty:TyOf X.K H x t) (e:PySem.W.kitOne X.K t c = some b) (h:∀ tk,Q (.bool b) { s with toks:=tk }) :
    wpAny (model X.prog X.w) A (call (.builtin "isinstance") [u,c]) Q E s:=by
  cases ty with
  | non=>cases (show u = Value.none from rx); exact PySem.W.kia_one PySem.W.kitx_none I.kIn True.intro e (fun z=>nomatch z) h
  | bl y=>cases (show u = Value.bool y from rx); exact PySem.W.kia_one PySem.W.kitx_bool I.kIn True.intro e (fun z=>nomatch z) h
  | int i=>obtain ⟨t,q⟩:=(show ∃ t,u = Value.int i t from rx); cases q; exact PySem.W.kia_one PySem.W.kitx_int I.kIn True.intro e (fun z=>nomatch z) h
  | str y=>obtain ⟨t,q⟩:=(show ∃ t,u = Value.str y t from rx); cases q; exact PySem.W.kia_one PySem.W.kitx_str I.kIn True.intro e (fun z=>nomatch z) h
  | flt y=>obtain ⟨t,q⟩:=(show ∃ t,u = Value.float y t from rx); cases q; exact PySem.W.kia_one PySem.W.kitx_float I.kIn True.intro e (fun z=>nomatch z) h
  | @lst a xs ea =>
    cases (show u = Value.ref a from rx)
    obtain ⟨_,_,n,_,h1⟩:=(show ObjOk X.prog X.w H s.heap a (.lst xs) from I.hok a _ ea)
    exact PySem.W.kia_one PySem.W.kitx_list I.kIn ⟨_,h1,rfl⟩ e (fun z=>nomatch z) h
  | @frz a ob xs ea =>
    cases (show u = Value.ref a from rx)
    obtain ⟨_,_,_,n,_,h1⟩:=(show ObjOk X.prog X.w H s.heap a (.frz ob (.lst xs)) from I.hok a _ ea)
    exact PySem.W.kia_one PySem.W.kitx_list I.kIn ⟨_,h1,rfl⟩ e (fun z=>nomatch z) h
  | @tup a xs ea =>
    cases (show u = Value.ref a from rx)
    obtain ⟨_,_,_,p⟩:=(show ObjOk X.prog X.w H s.heap a (.tup xs) from I.hok a _ ea)
    obtain ⟨o,h1,h2,_⟩:=p
    exact PySem.W.kia_one PySem.W.kitx_tuple I.kIn ⟨o,h1,h2⟩ e (fun z=>nomatch z) h
  | @dK a kvs ea =>
    cases (show u = Value.ref a from rx)
    obtain ⟨_,_,vs,_,p⟩:=(show ObjOk X.prog X.w H s.heap a (.dK kvs) from I.hok a _ ea)
    obtain ⟨o,es,ep,h1,h2,_⟩:=p
    exact PySem.W.kia_one PySem.W.kitx_dict I.kIn ⟨o,h1,h2.1⟩ e (fun z=>nomatch z) h
  | @dT a kvs ea =>
    cases (show u = Value.ref a from rx)
    obtain ⟨_,_,xs,_,o,es,ep,h1,h2,_⟩:=(show ObjOk X.prog X.w H s.heap a (.dT kvs) from I.hok a _ ea)
    exact PySem.W.kia_one PySem.W.kitx_dict I.kIn ⟨o,h1,h2.1⟩ e (fun z=>nomatch z) h
  | @ins a C dx fs ea cl ha hn htk hm =>
    cases (show u = Value.ref a from rx)
    obtain ⟨mA,O,_⟩:=ins_get I.hok ea
    obtain ⟨od,J,_⟩:=O.look
    exact PySem.W.kia_one (PySem.W.kitx_own (cl.get _) cl.hd ha hn htk hm) I.kIn J e (fun z=>nomatch z) h
end
end L2
namespace L2
open PySem PySem.Spec PyProof.Rows
structure Room (k:Nat) (A:Around):Prop where
  hd:A.handled = none
  gd:A.guards = some []
  dp:A.depth + 3 * k + 5 < recursionLimit
  un:A.units + 16 * k + 200 < cLine
theorem Room.mono {j k:Nat} {A:Around} (r:Room k A) (h:j≤k):Room j A:=⟨r.hd,r.gd,by have:=r.dp; omega,by have:=r.un; omega⟩
theorem Room.deeper {k:Nat} {A:Around} (r:Room (k + 1) A) (env:Env):Room k (A.deeper env) :=
  ⟨r.hd,r.gd,by have:=r.dp; show A.depth + 1 + 3 * k + 5 < _; omega,by have:=r.un; show A.units + 3 + 16 * k + 200 < _; omega⟩
theorem make_depth {A:Around} {C:Addr} {us:List Value} {kw:List (Str × Value)}:(A.under (.builtin "type.__call__" ⟨.ref C :: us,kw⟩)).depth = A.depth + 1:=by
  first | rfl | simp [Around.under,Code.weight,Code.isCreation,Code.isGuard,Code.isCaller,Code.frames,Code.isFrame,guardIds]
theorem make_units {A:Around} {C:Addr} {us:List Value} {kw:List (Str × Value)}:(A.under (.builtin "type.__call__" ⟨.ref C :: us,kw⟩)).units = A.units + 1:=by
  first | rfl | simp [Around.under,Code.cUnits,Code.frames,Code.isFrame]
theorem Room.make {k:Nat} {A:Around} (r:Room (k + 1) A) (C:Addr) (us:List Value) (kw:List (Str × Value)):Room k (A.under (.builtin "type.__call__" ⟨.ref C :: us,kw⟩)) :=
  ⟨r.hd,(by
    have e:(Code.builtin "type.__call__" ⟨.ref C :: us,kw⟩).guards = []:=by first | rfl | simp [Code.guards,Code.isGuard,guardIds]
    unfold Around.under
    simp only [e,pushGuards]
    exact r.gd),by have:=r.dp; rw [make_depth]; omega,by have:=r.un; rw [make_units]; omega⟩
theorem Room.depth {k:Nat} {A:Around} (r:Room k A):A.depth < recursionLimit:=by have:=r.dp; omega
theorem Room.units {k:Nat} {A:Around} (r:Room k A):A.units + 64 < cLine:=by have:=r.un; omega
def tNil:TA:=fun _ H Q=>Q [] H
def tCons (ta:TE) (tr:TA):TA:=fun σ H Q=>ta σ H fun x H1=>tr σ H1 fun xs H2=>Q (x :: xs) H2
section
variable {X:Cx} {e:Expr} {es:List Expr} {te:TE} {t:TA} {pos:Pos}
theorem pa_nil:PA X [] tNil:=fun _ _ _ _ H Q I h=>Calls.spliced_nil ⟨[],H,I,.nil,h⟩
theorem pa_cons (ha:PE X e te) (hr:PA X es t) (hs:starEach (e :: es) X.env = (false,eval e X.env) :: starEach es X.env:=by rfl):PA X (e :: es) (tCons te t):=by
  intro pos pins s σ H Q I h
  rw [hs]
  show wpAny _ _ (spliced ((false,eval e X.env) :: backTo pos (starEach es X.env))) _ _ s
  refine Calls.spliced_cons (thn (ha pins s σ H _ I h) fun u s1 ⟨x,H1,I1,r1,q1⟩=>?_)
  exact thn (hr pos pins s1 σ H1 _ I1 q1) fun us s2 ⟨xs,H2,I2,r2,q2⟩=>⟨x :: xs,H2,I2,.cons r1 r2,q2⟩
def tTup (t:TA):TE:=fun σ H Q=>t σ H fun xs H1=>xs.length≤sizeLine∧∀ p,H1 p = none→Q (.ref p) (upd H1 p (.tup xs))
def tLst (t:TA):TE:=fun σ H Q=>t σ H fun xs H1=>xs.length≤sizeLine∧∀ p,H1 p = none→Q (.ref p) (upd H1 p (.lst xs))
theorem pe_tup {x1} (h:PA X es t):PE X (.Tuple es x1 pos) (tTup t):=by
  intro pins s σ H Q I hq
  refine wpAny_Tuple_spliced (thn (h pos pins s σ H _ I hq) fun us s1 ⟨xs,H1,I1,r,z,q⟩=>⟨by rw [← r.length]; exact z,?_⟩)
  have hf:H1 s1.heap.objs.size = none:=I1.hok.fresh (Nat.le_refl _)
  refine ⟨.ref s1.heap.objs.size,upd H1 s1.heap.objs.size (.tup xs),I1.laid (t':=s1.toks) (fun b u e=>Heap.get?_push_of_some _ e) (Nat.le_refl _) ?_,rfl,q _ hf⟩
  exact ⟨z,us,r,⟨_,Heap.get?_push_size _ rfl,rfl,_,rfl⟩⟩
theorem pe_lst (h:PA X es t):PE X (.List es pos) (tLst t):=by
  intro pins s σ H Q I hq
  refine wpAny_List_spliced (thn (h pos pins s σ H _ I hq) fun us s1 ⟨xs,H1,I1,r,z,q⟩=>⟨by rw [← r.length]; exact z,?_⟩)
  have hf:H1 s1.heap.objs.size = none:=I1.hok.fresh (Nat.le_refl _)
  refine ⟨.ref s1.heap.objs.size,upd H1 s1.heap.objs.size (.lst xs),I1.laid (t':=s1.toks) (fun b u e=>Heap.get?_push_of_some _ e) (Nat.le_refl _) ?_,rfl,q _ hf⟩
  exact ⟨z,us,0,r,Heap.get?_push_size _ rfl⟩
end
abbrev Sp:=List V→Hp→VK→XK→Prop
abbrev CXT:=List Env→Hp→Shared→XK→Value→Shared→Prop
structure Env0 (P:Program) (w:World) (K:PySem.W.Frag) (mg:Str→Option Value) (base:Heap) (A:Around) (outer:List Env) (s:Shared) (H:Hp):Prop where
  frames:A.frames = some outer
  mod:Mod K mg base
  bs:∀ b o,base.get? b = some o→s.heap.get? b = some o∧H b = none
  bsz:base.objs.size≤s.heap.objs.size
  funs:s.heap.FunFrames base outer
  frf:∀ b∈frs outer,H b = none
  hok:HOk P w H s.heap
  bare:AllBare s.gens
def CE (outer:List Env) (P:Program) (w:World) (H:Hp) (s:Shared) (Q:VK) (u:Value) (s':Shared):Prop :=
  ∃ v H',s'.os = s.os∧AllBare s'.gens∧Un (frs outer) [] H H' s.heap s'.heap∧HOk P w H' s'.heap∧RelV v u∧Q v H'
def CR (CX:CXT) (outer:List Env) (P:Program) (w:World) (H:Hp) (s:Shared) (Q:VK) (E:XK) (r:Result) (s':Shared):Prop :=
  match r with
  | .ok (.ret u)=>CE outer P w H s Q u s'
  | .ok _=>False
  | .error e=>CX outer H s E e s'
structure FnOk (P:Program) (w:World) (K:PySem.W.Frag) (mg:Str→Option Value) (base:Heap) (CX:CXT) (k:Nat) (f:Addr) (fd:FuncData) (ps:List Str) (sp:Sp):Prop where
  len:∀ vs H Q E,sp vs H Q E→vs.length = ps.length
  run:∀ (A:Around) (outer:List Env) (s:Shared) (H:Hp) (args:Args) (us:List Value) (vs:List V) (Q:VK) (E:XK),Room k A→Env0 P w K mg base A outer s H→BindsTo s fd args (ps.zip us)→Vals vs us→sp vs H Q E →
    codeAny (model P w) A (.call (.ref f) args) (CR CX outer P w H s Q E) s
theorem FnOk.mono {P:Program} {w:World} {K:PySem.W.Frag} {mg:Str→Option Value} {base:Heap} {CX:CXT} {j k:Nat} {f:Addr} {fd:FuncData} {ps:List Str} {sp:Sp} (F:FnOk P w K mg base CX j f fd ps sp) (h:j≤k) :
    FnOk P w K mg base CX k f fd ps sp:=⟨F.len,fun A outer s H args us vs Q E hr=>F.run A outer s H args us vs Q E (hr.mono h)⟩
theorem FnOk.imp {P:Program} {w:World} {K:PySem.W.Frag} {mg:Str→Option Value} {base:Heap} {CX:CXT} {k:Nat} {f:Addr} {fd:FuncData} {ps:List Str} {sp sp':Sp} (F:FnOk P w K mg base CX k f fd ps sp)
    (h:∀ vs H Q E,sp' vs H Q E→sp vs H Q E):FnOk P w K mg base CX k f fd ps sp' :=
  ⟨fun vs H Q E q=>F.len vs H Q E (h _ _ _ _ q),fun A outer s H args us vs Q E hr he hb hv hs=>F.run A outer s H args us vs Q E hr he hb hv (h _ _ _ _ hs)⟩
theorem Env0.make {P:Program} {w:World} {K:PySem.W.Frag} {mg:Str→Option Value} {base:Heap} {A:Around} {outer:List Env} {s:Shared} {H:Hp} (e:Env0 P w K mg base A outer s H) (C:Addr) (us:List Value) (kw:List (Str × Value)) :
    Env0 P w K mg base (A.under (.builtin "type.__call__" ⟨.ref C :: us,kw⟩)) outer s H:=⟨by first | exact e.frames | (simpa [Around.under,Code.envs,Code.isFrame,pushEnvs] using e.frames),e.mod,e.bs,e.bsz,e.funs,e.frf,e.hok,e.bare⟩
section
variable {X:Cx} {pins:List (Addr × Obj)} {σ:St} {H:Hp} {s s':Shared}
theorem Inv.env0 (I:Inv X pins σ H s):Env0 X.prog X.w X.K X.mg X.base X.A X.stack s H :=
  ⟨I.ok.frames,I.ok.mod,I.bs,Nat.le_trans I.ok.bsz I.sz,I.stack,I.stkFree,I.hok,I.bare⟩
theorem Inv.after {Q:VK} {u:Value} (I:Inv X pins σ H s) (h:CE X.stack X.prog X.w H s Q u s'):EP X pins σ Q u s':=by
  obtain ⟨v,H',os,bare,un,hok,r,q⟩:=h
  obtain ⟨hh,g,d,t,os'⟩:=s'
  obtain rfl:os' = s.os:=os
  exact ⟨v,H',I.call (h':=hh) (g':=g) (d':=d) (t':=t) (ch:=[]) un hok bare (fun b z=>absurd z (by simp)),r,q⟩
end
def tCall (sp:Sp) (dvs:List V) (E:XK) (t:TA):TE:=fun σ H Q=>t σ H fun vs H1=>sp (vs ++ dvs) H1 Q E
def tMeth (C:Addr) (m:Str) (sp:Sp) (dvs:List V) (E:XK) (ta:TE) (t:TA):TE:=fun σ H Q=>ta σ H fun x H1=>∃ a dx fs,x = .ref a∧H1 a = some (.ins C dx fs)∧fs.lookup m = none ∧
  t σ H1 fun vs H2=>sp (x :: (vs ++ dvs)) H2 Q E
def tMake (C:Addr) (sp:Sp) (dvs:List V) (E:XK) (t:TA):TE:=fun σ H Q=>t σ H fun vs H1=>∀ x dx,H1 x = none→H1 dx = none→dx≠x →
  sp (.ref x :: (vs ++ dvs)) (upd (upd H1 dx (.own x)) x (.ins C dx [])) (fun v H2=>v = .non∧Q (.ref x) H2) E
def Binds (K:PySem.W.Frag) (fd:FuncData) (ps:List Str) (ds:List Value):Prop :=
  ∀ (s:Shared) (us:List Value),K.In s.heap→(us ++ ds).length = ps.length→BindsTo s fd ⟨us,[]⟩ (ps.zip (us ++ ds))
theorem Binds.all {K:PySem.W.Frag} {fd:FuncData} {ps:List Str} (h:∀ us:List Value,us.length = ps.length→bindArgs fd ⟨us,[]⟩ = pure (ps.zip us)):Binds K fd ps []:=fun s us _ hl=>by
  rw [List.append_nil] at hl ⊢
  exact .of_eq (h us hl)
def Passes (CX:CXT) (X:Cx) (E:XK):Prop:=∀ (pins:List (Addr × Obj)) (σ:St) (H:Hp) (s:Shared) (e:Value) (s':Shared),Inv X pins σ H s→CX X.stack H s E e s'→X.xe e s'
section
variable {X:Cx} {CX:CXT} {k:Nat} {f C:Addr} {fd:FuncData} {ps:List Str} {sp:Sp} {dvs:List V} {ds:List Value} {E:XK} {x m:Str} {p pos apos:Pos} {e o:Expr} {es:List Expr} {ta:TE} {t:TA}
theorem run_fn {pins:List (Addr × Obj)} {σ:St} {H:Hp} {s:Shared} {Q:VK} {us:List Value} {vs:List V} (F:FnOk X.prog X.w X.K X.mg X.base CX k f fd ps sp) (hr:Room k X.A) (hb:Binds X.K fd ps ds) (hd:Vals dvs ds) (hx:Passes CX X E)
    (I:Inv X pins σ H s) (r:Vals vs us) (h:sp (vs ++ dvs) H Q E):wpAny (model X.prog X.w) X.A (call (.ref f) us) (EP X pins σ Q) X.xe s:=by
  have r2:Vals (vs ++ dvs) (us ++ ds):=r.append hd
  have hl:(us ++ ds).length = ps.length:=by rw [← r2.length]; exact F.len _ _ _ _ h
  refine wpAny_call (codeAny_mono (F.run X.A X.stack s H ⟨us,[]⟩ (us ++ ds) (vs ++ dvs) Q E hr I.env0 (hb s us I.kIn hl) r2 h) fun r s' hq=>?_)
  cases r with
  | error e=>exact hx pins σ H s e s' I hq
  | ok fl =>
    cases fl with
    | ret u=>exact I.after hq
    | next=>exact False.elim hq
    | brk=>exact False.elim hq
    | cont=>exact False.elim hq
theorem pe_call (F:FnOk X.prog X.w X.K X.mg X.base CX k f fd ps sp) (hr:Room k X.A) (hg:Gl X x) (hm:X.mg x = some (.ref f)) (hk:PySem.W.keepIn X.K (.ref f) = true) (hb:Binds X.K fd ps ds) (hd:Vals dvs ds) (hx:Passes CX X E)
    (ha:PA X (e :: es) t) (hdb:(x == ("__debug__" : Str)) = false:=by decide) (he:starEach (e :: es) X.env = (false,eval e X.env) :: starEach es X.env:=by rfl) (hpl:(backTo pos (starEach es X.env)).any (·.1) = false:=by rfl) :
    PE X (.Call (.Name x p) (e :: es) [] pos) (tCall sp dvs E t):=by
  intro pins s σ H Q I h
  refine wpAny_Call_Name_kw (ld_glob I hg hm ?_ hdb)
  refine PySem.W.callWith_K (h₀:=X.base) I.ok.mod.kin hk (thn (ha pos pins s σ H _ I h) fun us s1 ⟨vs,H1,I1,r,q⟩=>⟨I1.kIn,?_⟩) he hpl
  exact run_fn F hr hb hd hx I1 r q
theorem pe_meth {pl:Sem Bool} (he:PE X o ta) (c:Cls X.K C) (hm:Meth X.K C m f) (F:FnOk X.prog X.w X.K X.mg X.base CX k f fd ps sp) (hr:Room k X.A) (hb:Binds X.K fd ps ds) (hd:Vals dvs ds) (hx:Passes CX X E) (ha:PA X (e :: es) t)
    (hst:starEach (e :: es) X.env = (false,eval e X.env) :: starEach es X.env:=by rfl) (hpl:(backTo pos (starEach es X.env)).any (·.1) = false:=by rfl)
    (ht:eval (.Call (.Attribute o m apos) (e :: es) [] pos) X.env = (do
      let ov ← eval o X.env
      standAt apos.atName
      let (f,first) ← holding [ov] (getMethod ov m pl)
      callWith pos f first (backTo pos (starEach (e :: es) X.env)) (backToKw pos (keywordEach [] X.env))):=by rfl) :
    PE X (.Call (.Attribute o m apos) (e :: es) [] pos) (tMeth C m sp dvs E ta t):=by
  intro pins s σ H Q I h
  refine PySem.W.methodCall_KW (pl:=pl) (thn (he pins s σ H _ I h) fun u s1 ⟨x,H1,I1,rx,a,dx,fs,ex,ea,l,q⟩=>?_) ht
  subst ex
  obtain rfl:u = Value.ref a:=rx
  refine getmeth_ok I1 ea c hm l ?_
  refine PySem.W.callWith_K (first:=[.ref a]) (h₀:=X.base) I.ok.mod.kin hm.kp (thn (ha pos pins s1 σ H1 _ I1 q) fun us s2 ⟨vs,H2,I2,r,q2⟩=>⟨I2.kIn,?_⟩) hst hpl
  exact run_fn (us:=.ref a :: us) (vs:=.ref a :: vs) F hr hb hd hx I2 (.cons rfl r) q2
structure Mk (K:PySem.W.Frag) (C f:Addr):Prop where
  makes:PySem.W.makesIn K C = true
  init:PySem.W.findIn K (.ref C) "__init__" = some (some (.ref f))
  fn:PySem.W.isFn K (.ref f) = true
  kp:PySem.W.keepIn K (.ref C) = true
theorem run_make {pins:List (Addr × Obj)} {σ:St} {H:Hp} {s:Shared} {Q:VK} {us:List Value} {vs:List V} (M:Mk X.K C f) (F:FnOk X.prog X.w X.K X.mg X.base CX k f fd ps sp) (hr:Room (k + 1) X.A) (hb:Binds X.K fd ps ds) (hd:Vals dvs ds)
    (hx:Passes CX X E) (I:Inv X pins σ H s) (r:Vals vs us)
    (h:∀ x dx,H x = none→H dx = none→dx≠x→sp (.ref x :: (vs ++ dvs)) (upd (upd H dx (.own x)) x (.ins C dx [])) (fun v H2=>v = .non∧Q (.ref x) H2) E) :
    wpAny (model X.prog X.w) X.A (call (.ref C) us) (EP X pins σ Q) X.xe s:=by
  have hq:=h (s.heap.objs.size + 1) s.heap.objs.size (I.hok.fresh (Nat.le_succ _)) (I.hok.fresh (Nat.le_refl _)) (Nat.ne_of_lt (Nat.lt_succ_self _))
  have I2:=Inv.made (C:=C) I
  have r2:Vals (V.ref (s.heap.objs.size + 1) :: (vs ++ dvs)) (Value.ref (s.heap.objs.size + 1) :: (us ++ ds)):=.cons rfl (r.append hd)
  have hl:(Value.ref (s.heap.objs.size + 1) :: us ++ ds).length = ps.length:=by
    have e:=r2.length
    rw [F.len _ _ _ _ hq] at e
    exact e.symm
  refine wpAny_call (make_map (f:=f) I.kIn M.makes M.init (beq_iff_eq.mp M.fn) (codeAny_mono (F.run _ X.stack _ _ ⟨Value.ref (s.heap.objs.size + 1) :: us,[]⟩ (Value.ref (s.heap.objs.size + 1) :: (us ++ ds)) _ _ E (hr.make C us [])
    (I2.env0.make C us []) (hb _ (Value.ref (s.heap.objs.size + 1) :: us) I2.kIn hl) r2 hq) fun r s' hq'=>?_))
  cases r with
  | error e=>exact hx pins σ _ _ e s' I2 hq'
  | ok fl =>
    cases fl with
    | ret u =>
      obtain ⟨v,H',I3,rv,ev,q3⟩:=I2.after hq'
      subst ev
      exact ⟨rv,⟨V.ref (s.heap.objs.size + 1),H',I3,rfl,q3⟩⟩
    | next=>exact False.elim hq'
    | brk=>exact False.elim hq'
    | cont=>exact False.elim hq'
theorem pe_make (M:Mk X.K C f) (F:FnOk X.prog X.w X.K X.mg X.base CX k f fd ps sp) (hr:Room (k + 1) X.A) (hg:Gl X x) (hm:X.mg x = some (.ref C)) (hb:Binds X.K fd ps ds) (hd:Vals dvs ds) (hx:Passes CX X E)
    (ha:PA X (e :: es) t) (hdb:(x == ("__debug__" : Str)) = false:=by decide) (he:starEach (e :: es) X.env = (false,eval e X.env) :: starEach es X.env:=by rfl) (hpl:(backTo pos (starEach es X.env)).any (·.1) = false:=by rfl) :
    PE X (.Call (.Name x p) (e :: es) [] pos) (tMake C sp dvs E t):=by
  intro pins s σ H Q I h
  refine wpAny_Call_Name_kw (ld_glob I hg hm ?_ hdb)
  refine PySem.W.callWith_K (h₀:=X.base) I.ok.mod.kin M.kp (thn (ha pos pins s σ H _ I h) fun us s1 ⟨vs,H1,I1,r,q⟩=>⟨I1.kIn,?_⟩) he hpl
  exact run_make M F hr hb hd hx I1 r q
end
structure FnScope (N P:List Str) (sc:Scope):Prop where
  kind:sc.kind = .function
  co:sc.isCoroutine = false
  gen:sc.isGenerator = false
  nd:N.Nodup
  pre:N.take P.length = P
  par:∀ x∈P,sc.names.lookup x = some .local∨sc.names.lookup x = some .cell
  nofree:∀ y∈sc.names,y.2≠.free
theorem bindL_out {kindOf:Str→Option NameKind} {x:Str}:∀ {binds:List (Str × Value)} {m:Str→Option Value},(∀ v,(x,v) ∉ binds)→bindL kindOf binds m x = m x
  | [],_,_=>rfl
  | (n,v) :: r,m,h=>by
    unfold bindL
    rw [bindL_out fun w hw=>h w (List.mem_cons_of_mem _ hw)]
    split
    · have:x≠n:=by rintro rfl; exact h v List.mem_cons_self
      simp [this]
    · rfl
theorem bindC_out {kindOf:Str→Option NameKind} {x:Str}:∀ {binds:List (Str × Value)} {m:Str→Option Value},(∀ v,(x,v) ∉ binds)→bindC kindOf binds m x = m x
  | [],_,_=>rfl
  | (n,v) :: r,m,h=>by
    unfold bindC
    rw [bindC_out fun w hw=>h w (List.mem_cons_of_mem _ hw)]
    split
    · rfl
    · have:x≠n:=by rintro rfl; exact h v List.mem_cons_self
      simp [this]
theorem bindL_get {kindOf:Str→Option NameKind} {x:Str} {v:Value}:∀ {P:List Str} {vs:List Value} {i:Nat} {m:Str→Option Value},P.Nodup→P[i]? = some x→vs[i]? = some v→kindOf x = some .local →
    bindL kindOf (P.zip vs) m x = some v
  | [],_,_,_,_,h,_,_=>by simp at h
  | _ :: _,[],_,_,_,_,h,_=>by simp at h
  | p :: P,w :: vs,0,m,nd,h1,h2,hk=>by
    simp at h1 h2; subst h1; subst h2
    show bindL kindOf ((p,w) :: P.zip vs) m p = _
    unfold bindL
    rw [bindL_out fun v hv=>(List.nodup_cons.mp nd).1 (List.of_mem_zip hv).1,if_pos hk]
    simp
  | p :: P,w :: vs,i + 1,m,nd,h1,h2,hk=>by
    show bindL kindOf ((p,w) :: P.zip vs) m x = _
    unfold bindL
    exact bindL_get (i:=i) (List.nodup_cons.mp nd).2 (by simpa using h1) (by simpa using h2) hk
theorem bindC_get {kindOf:Str→Option NameKind} {x:Str} {v:Value}:∀ {P:List Str} {vs:List Value} {i:Nat} {m:Str→Option Value},P.Nodup→P[i]? = some x→vs[i]? = some v→kindOf x≠some .local →
    bindC kindOf (P.zip vs) m x = some v
  | [],_,_,_,_,h,_,_=>by simp at h
  | _ :: _,[],_,_,_,_,h,_=>by simp at h
  | p :: P,w :: vs,0,m,nd,h1,h2,hk=>by
    simp at h1 h2; subst h1; subst h2
    show bindC kindOf ((p,w) :: P.zip vs) m p = _
    unfold bindC
    rw [bindC_out fun v hv=>(List.nodup_cons.mp nd).1 (List.of_mem_zip hv).1,if_neg hk]
    simp
  | p :: P,w :: vs,i + 1,m,nd,h1,h2,hk=>by
    show bindC kindOf ((p,w) :: P.zip vs) m x = _
    unfold bindC
    exact bindC_get (i:=i) (List.nodup_cons.mp nd).2 (by simpa using h1) (by simpa using h2) hk
def start (N:List Str) (vs:List V):St:=vs.map some ++ List.replicate (N.length - vs.length) none
def cxOf (CX:CXT) (P:Program) (w:World) (K:PySem.W.Frag) (mg:Str→Option Value) (base:Heap) (N:List Str) (qual:Str) (scope:Scope) (f:Addr) (cd:Value) (A:Around) (outer:List Env) (s:Shared) (H:Hp) (E:XK):Cx where
  prog:=P
  w:=w
  K:=K
  mg:=mg
  base:=base
  A:=A.deeper (envOfC qual scope s.heap.objs.size f cd)
  N:=N
  s₀:=s
  H₀:=H
  env:=envOfC qual scope s.heap.objs.size f cd
  outer:=outer
  stack:=envOfC qual scope s.heap.objs.size f cd :: outer
  ex:=[]
  calm:=true
  fn:=fun _=>true
  pn:=[]
  xe:=fun e s'=>wpAny (model P w) (A.deeper (envOfC qual scope s.heap.objs.size f cd)) (leaving (envOfC qual scope s.heap.objs.size f cd) e) (fun _ s''=>CX outer H s E e s'') (fun e' s''=>CX outer H s E e' s'') s'
theorem cell_has {sc:Scope} {n:Nat} {x:Str} (h:sc.names.lookup x = some .cell):∃ c,(cellsFrom n sc.names []).lookup x = some c:=by
  have q:=PySem.W.cellsFrom_some sc.names n [] (.inl h)
  exact Option.isSome_iff_exists.mp q
theorem inv_start {CX:CXT} {P:Program} {w:World} {K:PySem.W.Frag} {mg:Str→Option Value} {base:Heap} {N ps:List Str} {qual:Str} {scope:Scope} {f:Addr} {cd:Value} {A:Around} {outer:List Env} {s s1:Shared} {H:Hp} {E:XK} {us:List Value} {vs:List V}
    (S:FnScope N ps scope) (hd:A.handled = none) (e0:Env0 P w K mg base A outer s H) (hl:vs.length = ps.length) (r:Vals vs us)
    (x:InCallC s s.heap.objs.size (bindL (envOfC qual scope s.heap.objs.size f cd).kindOf (ps.zip us) fun _=>none) (cellsFrom (s.heap.objs.size + 1) scope.names []) (bindC (envOfC qual scope s.heap.objs.size f cd).kindOf (ps.zip us) fun _=>none) s1) :
    Inv (cxOf CX P w K mg base N qual scope f cd A outer s H E) [] (start N vs) H s1:=by
  have hpl:ps.length≤N.length:=by have:=congrArg List.length S.pre; rw [List.length_take] at this; omega
  obtain ⟨h1,tk,rfl,hk⟩:=x.done
  have noA:∀ b:Addr,b ∉ (cxOf CX P w K mg base N qual scope f cd A outer s H E).ex:=fun b z=>absurd (show b∈([]:List Addr) from z) (by simp)
  refine ⟨⟨e0.mod,S.kind,rfl,rfl,Nat.le_refl _,fun y z c h1 h2=>?_,fun y hy=>?_,fun y c _ h=>?_,fun _=>hd,Around.frames_deeper e0.frames,.inr ⟨rfl,rfl⟩,fun b z=>absurd z (noA b),e0.bs,e0.bsz,fun b _ _=>noA b,fun b z=>absurd z (noA b),e0.funs,e0.frf⟩,
    rfl,e0.bare,Un.kept hk,⟨_,x.toInCall.ns,fun i y v h1 h2 h3=>?_⟩,fun y c h=>⟨_,x.cell y c h⟩,e0.hok.fresh (Nat.le_refl _),fun y c h=>?_,fun p hp=>absurd (show p∈([]:List (Addr × Obj)) from hp) (by simp),e0.hok.kept hk,?_⟩
  · exact name_of_addr x.apart (PySem.mem_of_lookup h1) (PySem.mem_of_lookup h2)
  · have hy:scope.names.lookup y = some .cell∨scope.names.lookup y = some .free:=hy
    rcases hy with hy | hy
    · exact cell_has hy
    · exact absurd rfl (S.nofree _ (PySem.mem_of_lookup hy))
  · exact Nat.le_of_lt (x.above y c (PySem.mem_of_lookup h))
  · have hi:i < vs.length:=by
      unfold start at h2
      by_cases hi:i < vs.length
      · exact hi
      · rw [List.getElem?_append_right (by simpa using hi)] at h2
        rw [List.getElem?_replicate] at h2
        split at h2 <;> cases h2
    have ha:vs[i]? = some v:=by
      unfold start at h2
      rw [List.getElem?_append_left (by simpa using hi),List.getElem?_map] at h2
      cases e:vs[i]? with
      | none=>rw [e] at h2; cases h2
      | some a=>rw [e] at h2; cases h2; rfl
    obtain ⟨u,hu,rv⟩:=r.get ha
    have hp:ps[i]? = some y:=by
      rw [← S.pre,List.getElem?_take_of_lt (by omega)]; exact h1
    have ndP:ps.Nodup:=by rw [← S.pre]; exact S.nd.sublist (List.take_sublist _ _)
    refine ⟨u,rv,?_⟩
    rcases S.par y (List.mem_of_getElem? hp) with k | k
    · exact .inl ⟨k,bindL_get ndP hp hu k⟩
    · obtain ⟨c,e⟩:=cell_has (n:=s.heap.objs.size + 1) k
      refine .inr ⟨.inl k,c,e,?_⟩
      have q:=x.cell y c e
      rw [bindC_get ndP hp hu (by show scope.names.lookup y≠_; rw [k]; decide)] at q
      exact q
  · exact e0.hok.fresh (Nat.le_of_lt (x.above y c (PySem.mem_of_lookup h)))
  · unfold start
    show _ = N.length
    rw [List.length_append,List.length_map,List.length_replicate]
    omega
theorem fn_of {CX:CXT} {P:Program} {w:World} {K:PySem.W.Frag} {mg:Str→Option Value} {base:Heap} {k:Nat} {f:Addr} {name qual:Str} {params:Arguments} {body:List Stmt} {scope:Scope} {dV kV doc pm cdv ct oc:Value} {an od:Option Addr}
    {osl:Array (Option Value)} {N ps:List Str} {sp:Sp} (lk:K.lookup f = some ⟨oc,od,.func (PySem.W.fnOf name qual params body scope dV kV doc pm an cdv ct),osl⟩) (hcd:PySem.W.codeIn K cdv qual = true) (S:FnScope N ps scope)
    (len:∀ vs H Q E,sp vs H Q E→vs.length = ps.length)
    (hbody:∀ (A:Around) (outer:List Env) (s:Shared) (H:Hp) (vs:List V) (Q:VK) (E:XK),Room k (A.deeper (envOfC qual scope s.heap.objs.size f cdv))→sp vs H Q E →
      ∃ t,PSs (cxOf CX P w K mg base N qual scope f cdv A outer s H E) body t∧t { nx:=fun _ H'=>Q .non H',rt:=Q } (start N vs) H) :
    FnOk P w K mg base CX (k + 1) f (PySem.W.fnOf name qual params body scope dV kV doc pm an cdv ct) ps sp:=by
  refine ⟨len,fun A outer s H args us vs Q E hr e0 hb r hsp=>?_⟩
  have hl:=len _ _ _ _ hsp
  have KX:K.In s.heap:=e0.mod.kin.keeps fun b o e=>(e0.bs b o e).1
  have lim:s.heap.NoLimit:=e0.mod.nolimit.keeps fun b o e=>(e0.bs b o e).1
  have hkind:∀ y∈ps.zip us,scope.names.lookup y.1 = some .local∨(scope.names.lookup y.1 = some .cell∧((cellsFrom (s.heap.objs.size + 1) scope.names []).lookup y.1).isSome = true):=fun ⟨n,v⟩ hy=>by
    rcases S.par n (List.of_mem_zip hy).1 with q | q
    · exact .inl q
    · exact .inr ⟨q,PySem.W.cellsFrom_some _ _ _ (.inl q)⟩
  refine codeAny_call_function hr.depth (KX _ _ lk) rfl S.co S.gen rfl (PySem.W.codeRec_of KX hcd) (hb _ _ _ _ ?_)
  refine wpAny_newFunctionEnv_cells S.kind hkind fun env he s1 x=>?_
  subst he
  refine ⟨lim.keeps x.toInCall.keep,codeAny_func ?_⟩
  obtain ⟨t,ht,hq⟩:=hbody A outer s H vs Q E (hr.deeper _) hsp
  have I:Inv (cxOf CX P w K mg base N qual scope f cdv A outer s H E) [] (start N vs) H s1:=inv_start S hr.hd e0 hl r x
  refine wpAny_mono (ht [] s1 (start N vs) H _ I hq) (fun fl s' hs=>?_) fun e s' hs=>hs
  have fin:∀ {σ':St} {H':Hp} {v:V} {u:Value},Inv (cxOf CX P w K mg base N qual scope f cdv A outer s H E) [] σ' H' s'→RelV v u→Q v H'→CE outer P w H s Q u s' :=
    fun {σ' H' v u} J rv q=>⟨v,H',J.os,J.bare,J.base,J.hok,rv,q⟩
  cases fl with
  | ret u =>
    obtain ⟨v,σ',H',J,rv,q⟩:=hs
    exact fin J rv q
  | next =>
    obtain ⟨σ',H',J,q⟩:=hs
    exact fin (v:=V.non) (u:=Value.none) J rfl q
  | brk =>
    obtain ⟨_,_,_,q⟩:=hs
    exact False.elim q
  | cont =>
    obtain ⟨_,_,_,q⟩:=hs
    exact False.elim q
end L2
namespace L2
open PySem PySem.Spec PyProof.Rows
section
variable {X:Cx} {x:Str} {p pos:Pos} {e:Expr} {es:List Expr} {t:TA} {id T:String} {r:List V→Hp→VK→Prop}
def tCB (r:List V→Hp→VK→Prop) (t:TA):TE:=fun σ H Q=>t σ H fun vs H1=>r vs H1 Q
theorem pe_callB (hc:CallR X (.builtin id) r) (hg:Gl X x) (hm:X.mg x = none) (hv:bootBuiltins x = some (.builtin id)) (ha:PA X (e :: es) t) (hn:x ≠ "__name__" := by decide) (hdb:(x == ("__debug__" : Str)) = false:=by decide)
    (he:starEach (e :: es) X.env = (false,eval e X.env) :: starEach es X.env:=by rfl) (hpl:(backTo pos (starEach es X.env)).any (·.1) = false:=by rfl):PE X (.Call (.Name x p) (e :: es) [] pos) (tCB r t):=by
  intro pins s σ H Q I h
  refine wpAny_Call_Name_kw (ld_blt I hg hm hv ?_ hn hdb)
  exact PyProof.Rows.callWith_builtin1 (thn (ha pos pins s σ H _ I h) fun us s1 ⟨vs,H1,I1,r1,q1⟩=>hc pins s1 σ H1 vs us Q I1 r1 q1) he hpl
theorem pe_callTy (hc:CallR X (.type T) r) (hg:Gl X x) (hm:X.mg x = none) (hv:bootBuiltins x = some (.type T)) (ha:PA X (e :: es) t) (hn:x ≠ "__name__" := by decide) (hdb:(x == ("__debug__" : Str)) = false:=by decide)
    (he:starEach (e :: es) X.env = (false,eval e X.env) :: starEach es X.env:=by rfl) (hpl:(backTo pos (starEach es X.env)).any (·.1) = false:=by rfl):PE X (.Call (.Name x p) (e :: es) [] pos) (tCB r t):=by
  intro pins s σ H Q I h
  refine wpAny_Call_Name_kw (ld_blt I hg hm hv ?_ hn hdb)
  exact PyProof.Rows.callWith_type1 (thn (ha pos pins s σ H _ I h) fun us s1 ⟨vs,H1,I1,r1,q1⟩=>hc pins s1 σ H1 vs us Q I1 r1 q1) he hpl
end
end L2
namespace HT
open PySem PyProof.Rows
section
variable {prog:Program} {w:World} {A:Around} {E:Value→Shared→Prop} {s:Shared}
def sIx (n d:Nat):Option Int→Nat
  | none=>d
  | some v=>if v < 0 then (v + (n:Int)).toNat else min v.toNat n
theorem sIx_none (n d:Nat):sIx n d none = d:=rfl
theorem sIx_nat (n d k:Nat):sIx n d (some (k:Int)) = min k n:=by
  show (if (k:Int) < 0 then ((k:Int) + (n:Int)).toNat else min (k:Int).toNat n) = min k n
  rw [if_neg (by omega),Int.toNat_natCast]
theorem sIx_le (n d:Nat) (hd:d≤n) (o:Option Int):sIx n d o≤n:=by
  cases o with
  | none=>exact hd
  | some v =>
    show (if v < 0 then (v + (n:Int)).toNat else min v.toNat n)≤n
    by_cases hv:v < 0
    · rw [if_pos hv]; omega
    · rw [if_neg hv]; exact Nat.min_le_right _ _
theorem clip_eq (v:Int) (n d:Nat):(if v < 0 then max (v + (n:Int)) 0 else min v (n:Int)) = ((sIx n d (some v):Nat):Int):=by
  show (if v < 0 then max (v + (n:Int)) 0 else min v (n:Int)) = (((if v < 0 then (v + (n:Int)).toNat else min v.toNat n):Nat):Int)
  by_cases hv:v < 0
  · simp only [if_pos hv]; omega
  · simp only [if_neg hv]; omega
theorem adjust_gen (lo hi:Option Int) (n:Nat):Builtin.Slice.sliceAdjust lo hi 1 (n:Int) = (((sIx n 0 lo:Nat):Int),((sIx n n hi:Nat):Int)):=by
  have h1:¬ ((1:Int) < 0):=by omega
  unfold Builtin.Slice.sliceAdjust
  simp only [h1,if_false]
  refine Prod.ext ?_ ?_
  · cases lo with
    | none=>rfl
    | some v=>exact clip_eq v n 0
  · cases hi with
    | none=>rfl
    | some v=>exact clip_eq v n n
theorem places_gen (i j:Nat):Builtin.Slice.slicePlaces (i:Int) (j:Int) 1 = j - i:=by
  unfold Builtin.Slice.slicePlaces
  have h1:(1:Int) > 0:=by omega
  simp only [h1,if_true,Int.ediv_one]
  split <;> omega
theorem slicePart_ {v:Value} {o:Option Int} {Q:Option Int→Shared→Prop} (p:IsPart v o) (h:Q o s):wpAny (model prog w) A (Builtin.Slice.slicePartIndex v) Q E s:=by
  cases p with
  | none=>exact slicePart_none h
  | int i t=>exact slicePart_int h
theorem sliceApplied_gen {sl:Addr} {vl vu:Value} {lo hi:Option Int} {n:Nat} {Q:Int × Int × Nat→Shared→Prop} (hs:s.heap.IsSliceOf sl vl vu .none) (pl:IsPart vl lo) (pu:IsPart vu hi)
    (h:Q (((sIx n 0 lo:Nat):Int),1,sIx n n hi - sIx n 0 lo) s):wpAny (model prog w) A (Builtin.Slice.sliceApplied (.ref sl) (pure (n:Int))) Q E s:=by
  obtain ⟨os,hos,hcs,hds⟩:=id hs
  unfold Builtin.Slice.sliceApplied Builtin.Slice.sliceFields
  refine wpAny_bind (wpAny_bind (wpAny_field hos hds (x:=vl) rfl (wpAny_bind (wpAny_field hos hds (x:=vu) rfl (wpAny_bind (wpAny_field hos hds (x:=.none) rfl (wpAny_pure ?_)))))))
  refine wpAny_bind (slicePart_none ?_)
  show wpAny _ _ (if ((1:Int) == 0) = true then _ else _) _ _ s
  rw [if_neg (by decide)]
  refine wpAny_bind (slicePart_ pl (wpAny_bind (slicePart_ pu (wpAny_bind (wpAny_pure ?_)))))
  show wpAny _ _ (match Builtin.Slice.sliceAdjust lo hi 1 (n:Int) with | (lo,hi)=>pure (lo,(1:Int),Builtin.Slice.slicePlaces lo hi 1)) _ _ s
  rw [adjust_gen lo hi n]
  show wpAny _ _ (pure (((sIx n 0 lo:Nat):Int),(1:Int),Builtin.Slice.slicePlaces ((sIx n 0 lo:Nat):Int) ((sIx n n hi:Nat):Int) 1)) _ _ s
  rw [places_gen]
  exact wpAny_pure h
theorem pick_gen (xs:Array Value) (i k:Nat):((List.range k).filterMap fun (m:Nat)=>xs[((i:Int) + (m:Int) * 1).toNat]?).toArray = ((xs.toList.drop i).take k).toArray:=by
  have e:(fun (m:Nat)=>xs[((i:Int) + (m:Int) * 1).toNat]?) = fun m=>xs[i + m]?:=by
    funext m
    have:((i:Int) + (m:Int) * 1).toNat = i + m:=by omega
    rw [this]
  rw [e]
  have:=pick_run xs i k
  rw [List.filterMap_map] at this
  have e2:((fun x=>xs[x]?) ∘ fun x=>i + x) = fun m=>xs[i + m]?:=rfl
  rw [e2] at this
  rw [this]
theorem getItem_tuple_cut {t sl:Addr} {items:Array Value} {vl vu:Value} {lo hi:Option Int} {Q:Value→Shared→Prop} (ht:IsTup s.heap t items) (hs:s.heap.IsSliceOf sl vl vu .none) (pl:IsPart vl lo) (pu:IsPart vu hi)
    (hw:¬ (sIx items.size 0 lo = 0∧sIx items.size items.size hi = items.size))
    (h:Q (.ref s.heap.objs.size) { s with heap:=s.heap.push { cls:=.type "tuple", data:=.seq ((items.toList.drop (sIx items.size 0 lo)).take (sIx items.size items.size hi - sIx items.size 0 lo)).toArray } })
    (hsz:items.size≤sizeLine):wpAny (model prog w) A (getItem (.ref t) (.ref sl)) Q E s:=by
  have htake:sizeOk (.seq ((items.toList.drop (sIx items.size 0 lo)).take (sIx items.size items.size hi - sIx items.size 0 lo)).toArray):=by
    show ((items.toList.drop (sIx items.size 0 lo)).take (sIx items.size items.size hi - sIx items.size 0 lo)).toArray.size≤sizeLine
    rw [List.size_toArray,List.length_take,List.length_drop,Array.length_toList]
    omega
  have hj:sIx items.size items.size hi≤items.size:=sIx_le _ _ (Nat.le_refl _) hi
  obtain ⟨os,hos,hcs,hds⟩:=id hs
  have hTs:s.TypeIs (.ref sl) "slice" := ⟨os,hos,hcs⟩
  unfold getItem
  try with_reducible refine wpAny_holding ?_
  first | refine wpAny_bind (wpAny_pure ?_) | skip
  refine wpAny_bind (wpAny_sequenceKey ht.typeIs (by decide) ?_)
  refine wpAny_bind (wpAny_callSpecial?_slot (name:=Str.ofString "__getitem__") ht.typeIs PyProof.Rows.slot_tuple_getitem
    (wpAny_call_entry PyProof.Rows.slot_tuple_getitem ht.typeIs entry_tuple_getitem ?_ (args_tuple_getitem _ _)))
  show wpAny _ _ (Builtin.Tuple.tupleItemsOf (.ref t) >>= _) _ _ s
  refine wpAny_bind (tupleItemsOf_ ht ?_)
  refine wpAny_bind (wpAny_typeOf hTs ?_)
  rw [if_pos (by decide)]
  refine wpAny_bind (sliceApplied_gen hs pl pu ?_)
  have hno:¬ ((((sIx items.size 0 lo:Nat):Int) == 0 && (1:Int) == 1 && (sIx items.size items.size hi - sIx items.size 0 lo) == items.size) = true):=by
    intro q
    rw [Bool.and_eq_true,Bool.and_eq_true] at q
    have q1:((sIx items.size 0 lo:Nat):Int) = 0:=eq_of_beq q.1.1
    have q2:sIx items.size items.size hi - sIx items.size 0 lo = items.size:=eq_of_beq q.2
    exact hw ⟨by omega,by omega⟩
  show wpAny _ _ (if (((sIx items.size 0 lo:Nat):Int) == 0 && (1:Int) == 1 && (sIx items.size items.size hi - sIx items.size 0 lo) == items.size) = true then _ else _) _ _ s
  rw [if_neg hno,pick_gen]
  first
    | exact wpAny_bind (m:=Builtin.Tuple.tupleExact _) (wpAny_newObj_type (wpAny_pure ⟨_,rfl,wpAny_pure h⟩) htake)
    | exact wpAny_bind (m:=Builtin.Tuple.tupleExact _) (wpAny_newObj_type (wpAny_bind (wpAny_pure (wpAny_pure ⟨_,rfl,wpAny_pure h⟩))) htake)
    | exact wpAny_bind (wpAny_bind (m:=Builtin.Tuple.tupleExact _) (wpAny_newObj_type (wpAny_pure (wpAny_pure ⟨_,rfl,wpAny_pure h⟩)) htake))
    | exact wpAny_bind (wpAny_bind (m:=Builtin.Tuple.tupleExact _) (wpAny_newObj_type (wpAny_pure ⟨_,rfl,wpAny_pure h⟩) htake))
end
end HT
namespace L2
open PySem PySem.Spec PyProof.Rows
abbrev TO:=St→Hp→(Option Int→Hp→Prop)→Prop
def PO (X:Cx) (e:Option Expr) (t:TO):Prop :=
  ∀ (pins:List (Addr × Obj)) (s:Shared) (σ:St) (H:Hp) (Q:Option Int→Hp→Prop),Inv X pins σ H s→t σ H Q →
    wpAny (model X.prog X.w) X.A (evalPart e X.env) (fun u s'=>∃ o H',Inv X pins σ H' s'∧IsPart u o∧Q o H') X.xe s
def tNoPart:TO:=fun _ H Q=>Q none H
def tPart (t:TE):TO:=fun σ H Q=>t σ H fun x H1=>∃ i,x = .int i∧Q (some i) H1
section
variable {X:Cx} {e:Expr} {te:TE} {lo hi:Option Expr} {tl th:TO} {pos p2:Pos}
theorem po_none:PO X none tNoPart:=by
  intro pins s σ H Q I h
  rw [evalPart_none]
  exact wpAny_pure ⟨none,H,I,.none,h⟩
theorem po_some (h:PE X e te):PO X (some e) (tPart te):=by
  intro pins s σ H Q I hw
  rw [evalPart_some]
  refine thn (h pins s σ H _ I hw) fun u s1 ⟨x,H1,I1,r1,q1⟩=>?_
  obtain ⟨i,rfl,q⟩:=q1
  obtain ⟨t,rfl⟩:=r1
  exact ⟨some i,H1,I1,.int i t,q⟩
def SlR (X:Cx) (r:V→Option Int→Option Int→Hp→VK→Prop):Prop :=
  ∀ (pins:List (Addr × Obj)) (s:Shared) (σ:St) (H:Hp) (x:V) (v vl vu:Value) (lo hi:Option Int) (sl:Addr) (Q:VK),Inv X pins σ H s→RelV x v→s.heap.IsSliceOf sl vl vu .none→IsPart vl lo→IsPart vu hi→r x lo hi H Q →
    ∃ T id,typeLookup (.type T) "__getitem__" = pure (some (.builtin id))∧s.TypeIs v T∧wpAny (model X.prog X.w) X.A (getItem v (.ref sl)) (EP X pins σ Q) X.xe s
def tSl (r:V→Option Int→Option Int→Hp→VK→Prop) (te:TE) (tl th:TO):TE:=fun σ H Q=>te σ H fun x H1=>tl σ H1 fun l H2=>th σ H2 fun u H3=>r x l u H3 Q
theorem pe_slice {r:V→Option Int→Option Int→Hp→VK→Prop} (hr:SlR X r) (he:PE X e te) (hl:PO X lo tl) (hu:PO X hi th):PE X (.Subscript e (.Slice lo hi none p2) pos) (tSl r te tl th):=by
  intro pins s σ H Q I h
  refine Subscript_ (thn (he pins s σ H _ I h) fun v s1 ⟨x,H1,I1,r1,q1⟩=>?_)
  refine wpAny_Slice (thn (hl pins s1 σ H1 _ I1 q1) fun vl s2 ⟨l,H2,I2,pl,q2⟩=>thn (hu pins s2 σ H2 _ I2 q2) fun vu s3 ⟨u,H3,I3,pu,q3⟩=>?_)
  rw [evalPart_none]
  refine wpAny_pure ?_
  have I4:Inv X pins σ H3 { s3 with heap:=s3.heap.push { cls:=.type "slice", data:=.fields #[vl,vu,.none] } }:=I3.kept (t':=s3.toks) fun b ob q=>Heap.get?_push_of_some _ q
  obtain ⟨T,id,hT,ht,hg⟩:=hr pins { s3 with heap:=s3.heap.push { cls:=.type "slice", data:=.fields #[vl,vu,.none] } } σ H3 x v vl vu l u s3.heap.objs.size Q I4 r1 (Heap.IsSliceOf.new ..) pl pu q3
  show wpAny (model X.prog X.w) X.A (subscriptTail e (.Slice lo hi none p2) v (.ref s3.heap.objs.size)) (EP X pins σ Q) X.xe { s3 with heap:=s3.heap.push { cls:=.type "slice", data:=.fields #[vl,vu,.none] } }
  exact tail_any (ops:=[.ref s3.heap.objs.size,v]) ht hT hg (by with_unfolding_all rfl)
def cutV (xs:List V) (lo hi:Option Int):List V:=(xs.drop (HT.sIx xs.length 0 lo)).take (HT.sIx xs.length xs.length hi - HT.sIx xs.length 0 lo)
theorem cutV_length (xs:List V) (lo hi:Option Int):(cutV xs lo hi).length≤xs.length:=by
  unfold cutV
  rw [List.length_take,List.length_drop]
  omega
def rSlT (K:PySem.W.Frag):V→Option Int→Option Int→Hp→VK→Prop:=fun x lo hi H Q=>∃ a xs,x = .ref a∧SqT K H a xs ∧
  ¬ (HT.sIx xs.length 0 lo = 0∧HT.sIx xs.length xs.length hi = xs.length)∧∀ p,H p = none→Q (.ref p) (upd H p (.tup (cutV xs lo hi)))
theorem sl_tup:SlR X (rSlT X.K):=by
  intro pins s σ H x v vl vu lo hi sl Q I rx hs pl pu h
  obtain ⟨a,xs,rfl,hx,hw,q⟩:=h
  cases rx
  obtain ⟨its,r,ht,hz⟩:=I.tuple hx
  have hlen:its.toArray.size = xs.length:=by rw [List.size_toArray]; exact r.length.symm
  refine ⟨"tuple", _,PyProof.Rows.slot_tuple_getitem.lookup,ht.typeIs,?_⟩
  refine HT.getItem_tuple_cut ht hs pl pu (by rw [hlen]; exact hw) ?_ (by rw [hlen]; exact hz)
  rw [hlen]
  refine ⟨.ref s.heap.objs.size,_,I.laid (t':=s.toks) (o:=.tup (cutV xs lo hi)) (fun b ob q=>Heap.get?_push_of_some _ q) (Nat.le_refl _) ?_,rfl,q _ (I.hok.fresh (Nat.le_refl _))⟩
  exact ⟨Nat.le_trans (cutV_length xs lo hi) hz,_,(r.drop (HT.sIx xs.length 0 lo)).take (HT.sIx xs.length xs.length hi - HT.sIx xs.length 0 lo),IsTup.new _ _⟩
end
end L2
namespace L2
open PySem PySem.Spec PyProof.Rows
def ixN (n:Nat) (i:Int):Option Nat:=if 0≤i then (if i < n then some i.toNat else none) else if -(n:Int)≤i then some (i + n).toNat else none
def atI {α:Type} (xs:List α) (i:Int):Option α:=(ixN xs.length i).bind fun j=>xs[j]?
theorem ixN_seq {n:Nat} {i:Int} {j:Nat} (h:ixN n i = some j):seqIndex? i n = some j∧j < n∧-(n:Int)≤i∧i < n:=by
  unfold ixN at h
  by_cases h0:0≤i
  · rw [if_pos h0] at h
    by_cases h1:i < n
    · rw [if_pos h1] at h
      have e:i.toNat = j:=Option.some.inj h
      exact ⟨by rw [seqIndex_of h0 h1,e],by omega,by omega,h1⟩
    · rw [if_neg h1] at h; cases h
  · rw [if_neg h0] at h
    by_cases h1:-(n:Int)≤i
    · rw [if_pos h1] at h
      have e:(i + n).toNat = j:=Option.some.inj h
      exact ⟨by rw [seqIndex_neg (by omega) h1,e],by omega,h1,by omega⟩
    · rw [if_neg h1] at h; cases h
theorem atI_get {α:Type} {xs:List α} {i:Int} {v:α} (h:atI xs i = some v):∃ j,seqIndex? i xs.length = some j∧xs[j]? = some v∧j < xs.length∧-(xs.length:Int)≤i∧i < xs.length:=by
  unfold atI at h
  cases e:ixN xs.length i with
  | none=>rw [e] at h; cases h
  | some j =>
    rw [e] at h
    obtain ⟨h1,h2,h3,h4⟩:=ixN_seq e
    exact ⟨j,h1,h,h2,h3,h4⟩
theorem atI_nat {α:Type} {xs:List α} {j:Nat} {v:α} (h:xs[j]? = some v):atI xs (j:Int) = some v:=by
  have hj:j < xs.length:=(List.getElem?_eq_some_iff.mp h).1
  have e:ixN xs.length (j:Int) = some j:=by
    unfold ixN
    rw [if_pos (by omega),if_pos (by omega)]; simp
  unfold atI; rw [e]; exact h
def PlainIx (b:Expr):Prop:=∀ o i,subscripted b false o i = operate [o,i] (getItem o i)
def IxR (X:Cx) (r:R2):Prop :=
  ∀ (value slice:Expr) (pins:List (Addr × Obj)) (s:Shared) (σ:St) (H:Hp) (x y:V) (v u:Value) (Q:VK),Inv X pins σ H s→RelV x v→RelV y u→r x y H Q →
    subscripted slice false v u = operate [v,u] (getItem v u)→wpAny (model X.prog X.w) X.A (subscriptTail value slice v u) (EP X pins σ Q) X.xe s
def MtR (X:Cx) (id:String) (r:V→List V→Hp→VK→Prop):Prop :=
  ∀ (pins:List (Addr × Obj)) (s:Shared) (σ:St) (H:Hp) (x:V) (xs:List V) (v:Value) (us:List Value) (Q:VK),Inv X pins σ H s→RelV x v→Vals xs us→r x xs H Q →
    wpAny (model X.prog X.w) X.A (call (.builtin id) (v :: us)) (EP X pins σ Q) X.xe s
section
variable {X:Cx} {a b:Expr} {ta tb:TE} {pos:Pos}
theorem pe_ix {r:R2} (hr:IxR X r) (ha:PE X a ta) (hb:PE X b tb) (hs:PlainIx b):PE X (.Subscript a b pos) (tOp r ta tb):=by
  intro pins s σ H Q I h
  exact Subscript_ (binT ha hb I h fun v u s2 x y H2 I2 rx ry q=>hr a b pins s2 σ H2 x y v u Q I2 rx ry q (hs _ _))
def rIxL (K:PySem.W.Frag):R2:=fun x y H Q=>∃ p xs i v,x = .ref p∧y = .int i∧SqL K H p xs∧atI xs i = some v∧Q v H
def rIxT (K:PySem.W.Frag):R2:=fun x y H Q=>∃ p xs i v,x = .ref p∧y = .int i∧SqT K H p xs∧atI xs i = some v∧Q v H
theorem ix_list:IxR X (rIxL X.K):=by
  intro value slice pins s σ H x y v u Q I rx ry h hs
  obtain ⟨p,xs,i,z,rfl,rfl,hq,he,q⟩:=h
  cases rx
  obtain ⟨t,rfl⟩:=ry
  obtain ⟨its,r,pl,hz⟩:=I.list hq
  obtain ⟨j,h1,h2,h3,h4,h5⟩:=atI_get he
  obtain ⟨w,ew,rw'⟩:=r.get h2
  have hl:=r.length
  have hn:=line63
  have fin:EP X pins σ Q w s:=⟨z,H,I,rw',q⟩
  by_cases h0:0≤i
  · have hj:i.toNat = j:=by
      rw [seqIndex_of h0 h5] at h1
      exact Option.some.inj h1
    exact item_listR pl.isList h0 (by omega) (by rw [hj]; simpa using ew) fin hs
  · have hj:(i + (its.toArray.size:Int)).toNat = j:=by
      rw [seqIndex_neg (by omega) h4] at h1
      rw [List.size_toArray,← hl]
      exact Option.some.inj h1
    exact subscriptTail_builtinR (x:=w) pl.isList.typeIs slot_list_getitem.lookup
      (wpAny_getItem_list_neg (Q:=fun r s'=>r = w∧EP X pins σ Q r s') pl.isList (by omega) (by rw [List.size_toArray] <;> omega) (by omega) (by rw [hj]; simpa using ew) ⟨rfl,fin⟩) hs
theorem ix_tup:IxR X (rIxT X.K):=by
  intro value slice pins s σ H x y v u Q I rx ry h hs
  obtain ⟨p,xs,i,z,rfl,rfl,hq,he,q⟩:=h
  cases rx
  obtain ⟨t,rfl⟩:=ry
  obtain ⟨its,r,pl,hz⟩:=I.tuple hq
  obtain ⟨j,h1,h2,h3,h4,h5⟩:=atI_get he
  obtain ⟨w,ew,rw'⟩:=r.get h2
  have hl:=r.length
  have hn:=line63
  have fin:EP X pins σ Q w s:=⟨z,H,I,rw',q⟩
  exact subscriptTail_builtinR (x:=w) pl.typeIs slot_tuple_getitem.lookup
    (getItem_tuple (j:=j) (Q:=fun r s'=>r = w∧EP X pins σ Q r s') pl (by omega) (by omega) (by rw [List.size_toArray,← hl]; exact h1) (by simpa using ew) ⟨rfl,fin⟩) hs
theorem slice_bounds (lo hi:Option Int) (n:Nat):(sliceBounds lo hi none n).1 = ((HT.sIx n 0 lo:Nat):Int)∧(sliceBounds lo hi none n).2.1 = ((HT.sIx n n hi:Nat):Int)∧(sliceBounds lo hi none n).2.2 = 1:=by
  refine ⟨?_,?_,rfl⟩
  · cases lo with
    | none=>simp [sliceBounds,HT.sIx]
    | some i =>
      simp only [sliceBounds,HT.sIx,Option.getD_none,show (1:Int) > 0 by decide,if_true]
      by_cases h:i < 0
      · simp only [h,if_true] <;> omega
      · simp only [h,if_false] <;> omega
  · cases hi with
    | none=>simp [sliceBounds,HT.sIx]
    | some i =>
      simp only [sliceBounds,HT.sIx,Option.getD_none,show (1:Int) > 0 by decide,if_true]
      by_cases h:i < 0
      · simp only [h,if_true] <;> omega
      · simp only [h,if_false] <;> omega
theorem slicePick_cut (its:List Value) (lo hi:Option Int):slicePick its.toArray lo hi none = ((its.drop (HT.sIx its.length 0 lo)).take (HT.sIx its.length its.length hi - HT.sIx its.length 0 lo)).toArray:=by
  obtain ⟨h1,h2,h3⟩:=slice_bounds lo hi its.toArray.size
  unfold slicePick
  rw [h1,h2,h3]
  simp only [sliceRange_one,pick_run,List.size_toArray] <;> rfl
def rSlL (K:PySem.W.Frag):V→Option Int→Option Int→Hp→VK→Prop:=fun x lo hi H Q=>∃ a xs,x = .ref a∧SqL K H a xs∧∀ p,H p = none→Q (.ref p) (upd H p (.lst (cutV xs lo hi)))
theorem sl_list:SlR X (rSlL X.K):=by
  intro pins s σ H x v vl vu lo hi sl Q I rx hs pl pu h
  obtain ⟨a,xs,rfl,hx,q⟩:=h
  cases rx
  obtain ⟨its,r,ht,hz⟩:=I.list hx
  have hlen:=r.length
  refine ⟨"list", _,slot_list_getitem.lookup,ht.isList.typeIs,?_⟩
  refine wpAny_getItem_list_slice ht.isList hs pl pu .none (by simp) ?_ (by rw [List.size_toArray] <;> omega)
  rw [slicePick_cut,← hlen]
  refine ⟨.ref s.heap.objs.size,_,I.laid (t':=s.toks) (o:=.lst (cutV xs lo hi)) (fun b ob q=>Heap.get?_push_of_some _ q) (Nat.le_refl _) ?_,rfl,q _ (I.hok.fresh (Nat.le_refl _))⟩
  exact ⟨Nat.le_trans (cutV_length xs lo hi) hz,_,0,(r.drop (HT.sIx xs.length 0 lo)).take (HT.sIx xs.length xs.length hi - HT.sIx xs.length 0 lo),Heap.get?_push_size _ rfl⟩
def flatV:V→Bool
  | .non=>true
  | .bl _=>true
  | .int _=>true
  | .str _=>true
  | _=>false
def eqV:V→V→Bool
  | .non,.non=>true
  | .bl a,.bl b=>a == b
  | .bl a,.int b=>(if a then 1 else 0) == b
  | .int a,.bl b=>a == (if b then 1 else 0)
  | .int a,.int b=>a == b
  | .str a,.str b=>a == b
  | _,_=>false
theorem eqAt_V {A:Around} {s:Shared} {y x:V} {u v:Value} (ry:RelV y u) (rx:RelV x v) (fy:flatV y = true) (fx:flatV x = true):SeqAt.EqAt A s u v (eqV y x):=by
  cases y with
  | non =>
    cases ry
    cases x with
    | non=>cases rx; exact SeqAt.EqAt.same _
    | bl b=>cases rx; exact SeqAt.EqAt.none_bool b
    | int b=>obtain ⟨t,rfl⟩:=rx; exact SeqAt.EqAt.none_int b t
    | str b=>obtain ⟨t,rfl⟩:=rx; exact SeqAt.EqAt.none_str b t
    | _=>exact absurd (show false = true from fx) Bool.false_ne_true
  | bl a =>
    cases ry
    cases x with
    | non=>cases rx; exact SeqAt.EqAt.bool_none a
    | bl b=>cases rx; exact SeqAt.EqAt.bool_bool a b
    | int b=>obtain ⟨t,rfl⟩:=rx; exact SeqAt.EqAt.bool_int a b t
    | str b=>obtain ⟨t,rfl⟩:=rx; exact SeqAt.EqAt.bool_str a b t
    | _=>exact absurd (show false = true from fx) Bool.false_ne_true
  | int a =>
    obtain ⟨t',rfl⟩:=ry
    cases x with
    | non=>cases rx; exact SeqAt.EqAt.int_none a t'
    | bl b=>cases rx; exact SeqAt.EqAt.int_bool a t' b
    | int b=>obtain ⟨t,rfl⟩:=rx; exact SeqAt.EqAt.int_int a t' b t
    | str b=>obtain ⟨t,rfl⟩:=rx; exact SeqAt.EqAt.int_str a t' b t
    | _=>exact absurd (show false = true from fx) Bool.false_ne_true
  | str a =>
    obtain ⟨t',rfl⟩:=ry
    cases x with
    | non=>cases rx; exact SeqAt.EqAt.str_none a t'
    | bl b=>cases rx; exact SeqAt.EqAt.str_bool a t' b
    | int b=>obtain ⟨t,rfl⟩:=rx; exact SeqAt.EqAt.str_int a t' b t
    | str b=>obtain ⟨t,rfl⟩:=rx; exact SeqAt.EqAt.str_str a t' b t
    | _=>exact absurd (show false = true from fx) Bool.false_ne_true
  | _=>exact absurd (show false = true from fy) Bool.false_ne_true
def eqU (x:V) (u:Value):Bool:=match u with
  | .none=>eqV .non x
  | .bool b=>eqV (.bl b) x
  | .int i _=>eqV (.int i) x
  | .str z _=>eqV (.str z) x
  | _=>false
theorem eqU_of {x y:V} {u:Value} (r:RelV y u) (f:flatV y = true):eqU x u = eqV y x:=by
  cases y with
  | non=>cases r; rfl
  | bl b=>cases r; rfl
  | int i=>obtain ⟨t,rfl⟩:=r; rfl
  | str z=>obtain ⟨t,rfl⟩:=r; rfl
  | _=>exact absurd (show false = true from f) Bool.false_ne_true
theorem any_eqU {x:V}:∀ {xs:List V} {us:List Value},Vals xs us→xs.all flatV = true→us.any (eqU x) = xs.any fun y=>eqV y x
  | _,_,.nil,_=>rfl
  | y :: xs,u :: us,.cons r t,f=>by
    rw [List.all_cons,Bool.and_eq_true] at f
    rw [List.any_cons,List.any_cons,eqU_of r f.1,any_eqU t f.2]
theorem mem_eqAt {A:Around} {s:Shared} {x:V} {v:Value} (rx:RelV x v) (fx:flatV x = true):∀ {xs:List V} {us:List Value},Vals xs us→xs.all flatV = true→∀ u∈us,SeqAt.EqAt A s u v (eqU x u)
  | _,_,.nil,_=>fun u hu=>by cases hu
  | y :: xs,u :: us,.cons r t,f=>fun u' hu=>by
    rw [List.all_cons,Bool.and_eq_true] at f
    rcases List.mem_cons.mp hu with rfl | hu
    · rw [eqU_of r f.1]; exact eqAt_V r rx f.1 fx
    · exact mem_eqAt rx fx t f.2 u' hu
def inV (x:V) (xs:List V):Bool:=xs.any fun y=>eqV y x
def rIn (K:PySem.W.Frag) (neg:Bool):R2:=fun x y H Q=>∃ p xs,y = .ref p∧(SqL K H p xs∨SqT K H p xs)∧flatV x = true∧xs.all flatV = true∧Q (.bl (if neg then !inV x xs else inV x xs)) H
theorem op_in_seq:OpR X (compareOp .In) (rIn X.K false):=by
  intro pins s σ H x y v u Q I rx ry h
  obtain ⟨p,xs,rfl,hq,fx,fs,q⟩:=h
  cases ry
  rcases hq with hq | hq
  · obtain ⟨its,r,pl,hz⟩:=I.list hq
    refine SeqAt.in_listAt (eqU x) pl.isList (fun w hw=>mem_eqAt rx fx r fs w (by simpa using hw)) ⟨.bl _,H,I,rfl,?_⟩
    rw [show its.toArray.any (eqU x) = its.any (eqU x) by simp,any_eqU r fs]
    exact q
  · obtain ⟨its,r,pl,hz⟩:=I.tuple hq
    refine SeqAt.in_tupleAt (eqU x) pl (fun w hw=>mem_eqAt rx fx r fs w (by simpa using hw)) ⟨.bl _,H,I,rfl,?_⟩
    rw [show its.toArray.any (eqU x) = its.any (eqU x) by simp,any_eqU r fs]
    exact q
theorem op_notIn_seq:OpR X (compareOp .NotIn) (rIn X.K true):=by
  intro pins s σ H x y v u Q I rx ry h
  obtain ⟨p,xs,rfl,hq,fx,fs,q⟩:=h
  cases ry
  rcases hq with hq | hq
  · obtain ⟨its,r,pl,hz⟩:=I.list hq
    refine SeqAt.notIn_listAt (eqU x) pl.isList (fun w hw=>mem_eqAt rx fx r fs w (by simpa using hw)) ⟨.bl _,H,I,rfl,?_⟩
    rw [show its.toArray.any (eqU x) = its.any (eqU x) by simp,any_eqU r fs]
    exact q
  · obtain ⟨its,r,pl,hz⟩:=I.tuple hq
    refine SeqAt.notIn_tupleAt (eqU x) pl (fun w hw=>mem_eqAt rx fx r fs w (by simpa using hw)) ⟨.bl _,H,I,rfl,?_⟩
    rw [show its.toArray.any (eqU x) = its.any (eqU x) by simp,any_eqU r fs]
    exact q
theorem call_len_seq:CallR X (.builtin "len") (fun xs H Q=>∃ p ys,xs = [.ref p]∧(SqL X.K H p ys∨SqT X.K H p ys)∧Q (.int ys.length) H):=by
  intro pins s σ H xs us Q I r h
  obtain ⟨p,ys,rfl,hq,q⟩:=h
  obtain ⟨u,rfl,rx⟩:=vals1 r
  cases rx
  have hn:=line63
  rcases hq with hq | hq
  · obtain ⟨its,r',pl,hz⟩:=I.list hq
    have hlen:=r'.length
    exact Calls.call_len_list pl.isList (by simp only [List.size_toArray] <;> omega) ⟨.int ys.length,H,I.tok _,⟨s.toks + 1,by rw [List.size_toArray,hlen]⟩,q⟩
  · obtain ⟨its,r',pl,hz⟩:=I.tuple hq
    have hlen:=r'.length
    exact len_tuple pl (by simp only [List.size_toArray] <;> omega) ⟨.int ys.length,H,I.tok _,⟨s.toks + 1,by rw [List.size_toArray,hlen]⟩,q⟩
theorem call_list_of:CallR X (.type "list") (fun xs H Q=>∃ p ys,xs = [.ref p]∧(SqL X.K H p ys∨SqT X.K H p ys)∧∀ l,H l = none→Q (.ref l) (upd H l (.lst ys))):=by
  intro pins s σ H xs us Q I r h
  obtain ⟨p,ys,rfl,hq,q⟩:=h
  obtain ⟨u,rfl,rx⟩:=vals1 r
  cases rx
  have fin:∀ (its:List Value),Vals ys its→ys.length≤sizeLine→∀ (h':Heap) (c':Nat),(∀ b o',s.heap.get? b = some o'→h'.get? b = some o') →
      h'.get? s.heap.objs.size = some { cls:=.type "list", dict:=none,data:=.seq its.toArray c',slots:=#[] }→EP X pins σ Q (.ref s.heap.objs.size) { s with heap:=h' }:=fun its r' hz h' c' kp e =>
    ⟨.ref s.heap.objs.size,_,I.laid (t':=s.toks) kp (Nat.le_refl _) (show ObjOk X.prog X.w _ h' _ (.lst ys) from ⟨hz,its,c',r',e⟩),rfl,q _ (I.hok.fresh (Nat.le_refl _))⟩
  rcases hq with hq | hq
  · obtain ⟨its,r',pl,hz⟩:=I.list hq
    have hlen:=r'.length
    obtain ⟨o,ho,hc,n,hd⟩:=pl.isList
    exact call_list_seq p (.inl rfl) ho hc hd (fun h' c' kp e=>fin its r' hz h' c' kp e) (by simp only [List.size_toArray] <;> omega)
  · obtain ⟨its,r',pl,hz⟩:=I.tuple hq
    have hlen:=r'.length
    obtain ⟨o,ho,hc,n,hd⟩:=pl
    exact call_list_seq p (.inr rfl) ho hc hd (fun h' c' kp e=>fin its r' hz h' c' kp e) (by simp only [List.size_toArray] <;> omega)
def tyV (K:PySem.W.Frag) (T:String) (x:V) (H:Hp):Prop:=match x with
  | .str _=>T = "str"
  | .int _=>T = "int"
  | .ref p=>(T = "list" ∧ ∃ xs,SqL K H p xs)∨(T = "tuple" ∧ ∃ o,K.lookup p = some o∧o.cls = .type "tuple" ∧ o.dict = none) ∨
      (T = "dict" ∧ ((∃ kvs,H p = some (.dK kvs))∨∃ kvs,H p = some (.dT kvs)))∨(T = "set" ∧ ∃ S n,H p = some (.set S n))
  | _=>False
theorem tyV_is {pins:List (Addr × Obj)} {σ:St} {H:Hp} {s:Shared} {T:String} {x:V} {v:Value} (I:Inv X pins σ H s) (r:RelV x v) (ty:tyV X.K T x H) :
    s.TypeIs v T∧∀ a,v = .ref a→∃ ob,s.heap.get? a = some ob∧ob.dict = none:=by
  cases x with
  | str z =>
    obtain ⟨t,rfl⟩:=r
    cases (show T = "str" from ty)
    exact ⟨typeIs_str s z t,fun _ e=>nomatch e⟩
  | int i =>
    obtain ⟨t,rfl⟩:=r
    cases (show T = "int" from ty)
    exact ⟨typeIs_int s i t,fun _ e=>nomatch e⟩
  | ref p =>
    cases r
    rcases ty with ⟨rfl,xs,hq⟩ | ⟨rfl,o,hk,hc,hd⟩ | ⟨rfl,hk⟩ | ⟨rfl,S,n,hk⟩
    · obtain ⟨its,_,pl,_⟩:=I.list hq
      refine ⟨pl.isList.typeIs,fun a e=>?_⟩
      cases e
      obtain ⟨o,n,e,c,hd,_⟩:=pl
      exact ⟨o,e,hd⟩
    · refine ⟨⟨o,I.kIn p o hk,hc⟩,fun a e=>?_⟩
      cases e
      exact ⟨o,I.kIn _ o hk,hd⟩
    · have z:∃ o,s.heap.get? p = some o∧o.ExactDict:=by
        rcases hk with ⟨kvs,hk⟩ | ⟨kvs,hk⟩
        · obtain ⟨_,_,_,_,o,_,_,e,ex,_⟩:=I.hok p _ hk
          exact ⟨o,e,ex⟩
        · obtain ⟨_,_,_,_,o,_,_,e,ex,_⟩:=I.hok p _ hk
          exact ⟨o,e,ex⟩
      obtain ⟨o,e,ex⟩:=z
      refine ⟨⟨o,e,ex.1⟩,fun a e2=>?_⟩
      cases e2
      exact ⟨o,e,ex.2.1⟩
    · obtain ⟨o,_,_,_,e,ex,_⟩:=I.hok p _ hk
      refine ⟨⟨o,e,ex.1⟩,fun a e2=>?_⟩
      cases e2
      exact ⟨o,e,ex.2.1⟩
  | _=>exact False.elim ty
def tBM (K:PySem.W.Frag) (T:String) (r:V→List V→Hp→VK→Prop) (to:TE) (t:TA):TE:=fun σ H Q=>to σ H fun x H1=>tyV K T x H1∧t σ H1 fun xs H2=>r x xs H2 Q
variable {o e:Expr} {es:List Expr} {to:TE} {t:TA} {name:Str} {apos cpos:Pos} {T id:String} {r:V→List V→Hp→VK→Prop}
theorem pe_bm (pa:PlainAttrs T) (slot:Slot T name id) (hty:typeOf (.builtin id) = pure (.type "method_descriptor")) (hm:MtR X id r) (ho:PE X o to) (ha:PA X (e :: es) t)
    (hbase:attributeBase o name X.env (eval o X.env) = eval o X.env:=by rfl)
    (hfew:((backTo cpos (starEach (e :: es) X.env)).all (fun x=>!x.1) && (backToKw cpos (keywordEach [] X.env)).all (fun x=>x.1.isSome)
      && decide ((e :: es).length + ([]:List Keyword).length + (if ([]:List Keyword).isEmpty then 0 else 1) < 30)) = true:=by rfl)
    (hline:(apos.endLine == cpos.line) = true:=by rfl) (hs:starEach (e :: es) X.env = (false,eval e X.env) :: starEach es X.env:=by rfl) (hplain:(backTo cpos (starEach es X.env)).any (·.1) = false:=by rfl) :
    PE X (.Call (.Attribute o name apos) (e :: es) [] cpos) (tBM X.K T r to t):=by
  intro pins s σ H Q I h
  refine wpAny_Call_method_late hbase hfew hline rfl (thn (ho pins s σ H _ I h) fun v s1 ⟨x,H1,I1,r1,ty,q1⟩=>?_)
  obtain ⟨h1,h2⟩:=tyV_is I1 r1 ty
  refine ⟨T,id,pa,slot,hty,h1,h2,?_⟩
  have hA:=ha cpos pins s1 σ H1 _ I1 q1
  rw [hs] at hA ⊢
  refine Calls.callWith_builtin (by show (false || (backTo cpos (starEach es X.env)).any (·.1)) = false; rw [hplain] <;> rfl) (Calls.evalArgs_plain ?_)
  exact thn hA fun us s2 ⟨vs,H2,I2,r2,q2⟩=>hm pins s2 σ H2 x vs v us Q I2 r1 r2 q2
/- xs.append(e),list.index on a module's tuple .. are MtR facts of 06m -/
end
end L2
namespace L2
open PySem PySem.Spec PyProof.Rows
def MtM (X:Cx) (id:String) (r:V→List V→Hp→VK→Prop):Prop :=
  ∀ (pins:List (Addr × Obj)) (s:Shared) (σ:St) (H:Hp) (x:V) (xs:List V) (v:Value) (us:List Value) (Q:VK),Inv X pins σ H s→RelV x v→Vals xs us→r x xs H Q →
    wpAny (model X.prog X.w) X.A (call (.builtin id) (v :: us)) (EP X pins σ Q) X.xe s
theorem Vals.one:∀ {x:V} {us:List Value},Vals [x] us→∃ u,us = [u]∧RelV x u
  | _,_,.cons r .nil=>⟨_,rfl,r⟩
section
variable {X:Cx} {pins:List (Addr × Obj)} {σ:St} {H:Hp} {s:Shared} {l b:Addr} {xs ys zs:List V}
theorem Inv.lset {its its':List Value} {n:Nat} {f:Array Value→Array Value} {t':Nat} (I:Inv X pins σ H s) (hH:H l = some (.lst xs))
    (e:s.heap.get? l = some { cls:=.type "list", data:=.seq its.toArray n }) (hf:f its.toArray = its'.toArray) (hv:Vals ys its') (hz:ys.length≤sizeLine) :
    Inv X pins σ (upd H l (.lst ys)) { s with heap:=s.heap.update l (Obj.mapSeq f),toks:=t' }:=by
  have q:=PySem.IsL.update e f
  rw [hf] at q
  refine I.write (x:=l) (e:=l) (by rw [hH]; exact trivial) (.inl rfl) (fun b' u hb hu=>(Heap.get?_update_other s.heap (Obj.mapSeq f) (Ne.symm hb)).trans hu) ⟨_,q⟩ ?_
  exact ⟨hz,its',_,hv,q⟩
theorem Inv.fresh (I:Inv X pins σ H s):H s.heap.objs.size = none:=I.hok.fresh (Nat.le_refl _)
theorem Inv.lstM (I:Inv X pins σ H s) (hH:H l = some (.lst xs)):xs.length≤sizeLine∧∃ (its:List Value) (n:Nat),Vals xs its∧xs.length = its.length∧s.heap.get? l = some { cls:=.type "list", data:=.seq its.toArray n }:=by
  obtain ⟨z,its,n,r,e⟩:=I.hok l _ hH
  exact ⟨z,its,n,r,r.length,e⟩
theorem notLongL {n:Nat} (h:n≤sizeLine):Builtin.List.listTooLong n = false:=by
  unfold Builtin.List.listTooLong
  exact decide_eq_false (by omega)
end
section
variable {X:Cx}
def rAppend:V→List V→Hp→VK→Prop:=fun x vs H Q=>∃ l xs y,x = .ref l∧vs = [y]∧H l = some (.lst xs)∧xs.length < sizeLine∧Q .non (upd H l (.lst (xs ++ [y])))
theorem mt_append:MtM X "list.append" rAppend:=by
  intro pins s σ H x vs v us Q I rx rv h
  obtain ⟨l,xs,y,rfl,rfl,hH,hz,q⟩:=h
  cases rx
  obtain ⟨u,rfl,ru⟩:=rv.one
  obtain ⟨z,its,n,r,hl,e⟩:=I.lstM hH
  refine call_meets F.slot_list_append ⟨_,e,rfl⟩ F.entry_list_append (F.args_list_append_2 _ _) (PySem.list_append l its.toArray n u (by rw [List.size_toArray]; omega)) ⟨e,?_⟩
  refine ⟨.non,_,I.lset (its':=its ++ [u]) hH e (by simp) (r.append (.cons ru .nil)) ?_,rfl,q⟩
  rw [List.length_append,List.length_singleton]
  omega
def rExtend:V→List V→Hp→VK→Prop:=fun x vs H Q=>∃ l b xs zs,x = .ref l∧vs = [.ref b]∧H l = some (.lst xs)∧H b = some (.lst zs)∧xs.length + zs.length≤sizeLine∧Q .non (upd H l (.lst (xs ++ zs)))
theorem mt_extend:MtM X "list.extend" rExtend:=by
  intro pins s σ H x vs v us Q I rx rv h
  obtain ⟨l,b,xs,zs,rfl,rfl,hH,hB,hz,q⟩:=h
  cases rx
  obtain ⟨u,rfl,ru⟩:=rv.one
  cases ru
  obtain ⟨z,its,n,r,hl,e⟩:=I.lstM hH
  obtain ⟨z2,its2,n2,r2,hl2,e2⟩:=I.lstM hB
  have hsz:its.toArray.size + its2.toArray.size≤sizeLine:=by rw [List.size_toArray,List.size_toArray]; omega
  have hlong:¬ (!its.toArray.isEmpty && Builtin.List.listTooLong (its.toArray.size + its2.toArray.size)) = true:=by
    rw [notLongL hsz,Bool.and_false]
    exact Bool.false_ne_true
  refine call_meets F.slot_list_extend ⟨_,e,rfl⟩ F.entry_list_extend (F.args_list_extend_2 _ _)
    (AutoSeq1.list_extend_list_list_0 l its.toArray n b its2.toArray n2 hlong (by rw [List.size_toArray]; omega) (by omega)) ⟨e,e2,?_⟩
  refine ⟨.non,_,I.lset (its':=its ++ its2) hH e (by simp) (r.append r2) ?_,rfl,q⟩
  rw [List.length_append]
  omega
end
end L2
namespace Att
open PySem PySem.W PySem.Calls PyProof.Rows
theorem ints_of_wellAll {P:Params} {h:Heap}:∀ (ns:List Int) (vs:List Value),WellAll P h vs (ns.map WData.int)→IntsAre vs ns:=by
  intro ns
  induction ns with
  | nil =>
    intro vs w
    rw [List.map_nil] at w
    cases w
    exact .nil
  | cons n ns ih =>
    intro vs w
    rw [List.map_cons] at w
    cases w with
    | cons a b =>
      cases a
      exact .cons _ _ (ih _ b)
theorem script_of {l:OpenLaw} {n:Nat} (hn:l.most = some n) {P:Params} {h:Heap} {args:List WData} {vals:List Value}
    (hpre:l.row.toRowW.claim.pre args = true) (hwl:WellAll P h vals args) :
    ∃ a vs ns,vals = [Value.ref a]∧args = [WData.list (ns.map WData.int)]∧h.get? a = some { cls:=.type "list", data:=.seq vs.toArray }∧IntsAre vs ns∧ns.length≤n:=by
  have hsh:WShape.hasAll [] args [.list .int] = true:=(pre_splitW hpre).1
  have hc:l.pre.holds [] { args:=args } = true:=(pre_splitW hpre).2
  obtain ⟨d,r,rfl,h1,h2⟩:=hasAllW_cons hsh
  obtain rfl:=hasAllW_nil h2
  obtain ⟨xs,rfl,h3⟩:=hasW_list h1
  obtain ⟨ns,rfl⟩:=items_int h3
  have hlen:ns.length≤n:=by
    unfold OpenLaw.pre at hc
    have h4:(WTm.not (.lt (.lit (.int (n:Int))) (.len (.arg 0)))).holds [] { args:=[.list (ns.map .int)] } = true:=by
      have h4:=(holds_andW hc).1
      rw [hn] at h4
      exact h4
    have h5:=condW_of h4 (w_not (w_lt w_lit (w_len_list (w_arg rfl))))
    rw [List.length_map] at h5
    refine Nat.le_of_not_lt fun q=>?_
    have q':(n:Int) < ((ns.length:Nat):Int):=by omega
    first
      | (rw [decide_eq_true q'] at h5; exact absurd h5 (by decide))
      | (simp at h5; omega)
  cases hwl with
  | cons w1 w2 =>
    cases w2
    cases w1 with
    | list ho hall=>exact ⟨_,_,ns,rfl,rfl,ho,ints_of_wellAll ns _ hall,hlen⟩
theorem post_true (l:OpenLaw) (args:List WData):l.row.toRowW.claim.post args (.bool true) args = true :=
  postW_of (r:=l.row.toRowW) (X:=(true == true))
    (show WShape.has [] (.bool true) .bool = true by first | rfl | decide | simp [WShape.has,WShape.arms,WShape.armsAll])
    (show (WTm.eq .res (.lit (.bool true))).value [] { args:=args,res:=some (.bool true),after:=args } = some (.bool (true == true)) from w_eq_bool (w_res rfl) w_lit) rfl
theorem attach_call {l:OpenLaw} {n:Nat} {q:Program} {loose:List Str} {XP:(Str→Option Value)→Heap→Prop} {YP:World→Heap→Prop} {d:DefRec}
    (hn:l.most = some n) (hdf:d.params.defaults = [])
    (call:∀ (w:World) (s₀ s₁:Shared) (mg mb:Str→Option Value) (fa:Addr) (o:Obj) (pm cd doc:Value) (a:Addr) (vs:List Value) (ns:List Int),
      Ground q loose [] XP w s₀ mg mb s₁.heap→YP w s₁.heap →
      s₁.heap.get? fa = some o→o.data = .func (docDef d.name d.params d.body d.scope pm cd doc)→s₁.heap.CodeRec cd d.name→mg d.name = some (.ref fa) →
      s₁.heap.get? a = some { cls:=.type "list", data:=.seq vs.toArray }→IntsAre vs ns→ns.length≤n→s₁.gens = #[] →
      codeAny (model l.prog w) callerA (.call (.ref fa) ⟨[.ref a],[]⟩) (fun r s'=>r = .ok (.ret (.bool true))∧OldK s₁.heap s'.heap∧s'.os = s₁.os∧AllBare s'.gens) s₁) :
    WalkO q loose XP YP l.row.toRowW d [] (fun f vs=>PySem.call f vs):=by
  intro w s₀ s₁ mg mb G Y fa o pm cd doc dV kV ho hd hcd hD hmg hg args vals as hpre hlay hrd hwl hlo
  obtain rfl:dV = .none:=Dflts.none hD hdf
  obtain rfl:kV = .none:=Dflts.noKw hD
  obtain ⟨a,vs,ns,rfl,rfl,hobj,hints,hlen⟩:=script_of hn hpre hwl
  refine enter_call (codeAny_mono (call w s₀ s₁ mg mb fa o pm cd doc a vs ns G Y ho (fd_plain hd) hcd hmg hobj hints hlen hg) fun r s' hq=>?_)
  obtain ⟨rfl,h2,h3,h4⟩:=hq
  exact ⟨.inl ⟨.bool true,.bool true,[],rfl,fun _=>rfl,.bool true,post_true l _,fun _=>⟨List.Pairwise.nil,fun _ hm=>(nomatch hm)⟩⟩,h2,h3,h4⟩
end Att
namespace L2
open PySem PySem.Spec PyProof.Rows
theorem vals_ints:∀ {vs:List Value} {ns:List Int},IntsAre vs ns→Vals (ns.map V.int) vs
  | _,_,.nil=>.nil
  | _,_,.cons n t h=>.cons ⟨t,rfl⟩ (vals_ints h)
def Only (H:Hp):Prop:=∀ b,H b = none∨∃ o xs,H b = some (.frz o (.lst xs))
theorem law_call {P:Program} {w:World} {K:PySem.W.Frag} {mg mb:Str→Option Value} {CX:CXT} {k:Nat} {fa a:Addr} {fd:FuncData} {x:Str} {sp:Sp} {s₁:Shared} {vs:List Value} {ns:List Int}
    (KX:K.In s₁.heap) (hns:s₁.heap.Ns mainGlobals mg) (hb:s₁.heap.Ns builtinsNs mb) (hbb:∀ x:Str,x ≠ "__name__" → mb x = bootBuiltins x) (hlim:s₁.heap.NoLimit) (hg:s₁.gens = #[])
    (ha:s₁.heap.get? a = some { cls:=.type "list", data:=.seq vs.toArray }) (hi:IntsAre vs ns) (hl:ns.length≤sizeLine) (hr:Room k callerA)
    (F:∀ base:Heap,K.In base→base.Ns mainGlobals mg→FnOk P w K mg base CX k fa fd [x] sp) (hbind:∀ (s:Shared) (u:Value),BindsTo s fd ⟨[u],[]⟩ [(x,u)])
    (hsp:∀ H:Hp,Only H→SqL K H a (ns.map V.int)→sp [.ref a] H (fun v _=>v = .bl true) fun _ _ _=>False)
    (hCX:∀ H e s',CX [] H s₁ (fun _ _ _=>False) e s'→False) :
    codeAny (model P w) callerA (.call (.ref fa) ⟨[.ref a],[]⟩) (fun r s'=>r = .ok (.ret (.bool true))∧OldK s₁.heap s'.heap∧s'.os = s₁.os∧AllBare s'.gens) s₁:=by
  have rv:=vals_ints hi
  have lenV:=hi.length
  have core:∀ H:Hp,Only H→SqL K H a (ns.map V.int)→HOk P w H s₁.heap→(∀ b,H b≠none→b = a)→(H a≠none→K.lookup a = none) →
      codeAny (model P w) callerA (.call (.ref fa) ⟨[.ref a],[]⟩) (fun r s'=>r = .ok (.ret (.bool true))∧OldK s₁.heap s'.heap∧s'.os = s₁.os∧AllBare s'.gens) s₁:=by
    intro H hO hS hok hA hK
    have base_of:∀ {b:Addr} {o:Obj},s₁.heap.get? b = some o→H b = none→(hidT s₁.heap H).get? b = some o:=fun e n=>hidT_get e n
    have noA:∀ {b:Addr} {o:Obj} {es:Array DictEntry} {ep:Nat},s₁.heap.get? b = some o→o.data = .dict es ep→H b = none:=fun {b o es ep} e d=>by
      cases q:H b with
      | none=>rfl
      | some u =>
        have e':b = a:=hA b (by rw [q]; simp)
        subst e'
        rw [ha] at e; cases e
        have d':Data.seq vs.toArray _ = Data.dict es ep:=d
        cases d'
    have nsK:∀ {b:Addr} {m:Str→Option Value},s₁.heap.Ns b m→(hidT s₁.heap H).Ns b m:=fun {b m} ⟨o,es,ep,e,d,r⟩=>⟨o,es,ep,base_of e (noA e d),d,r⟩
    have hKb:K.In (hidT s₁.heap H):=fun b o e=>base_of (KX b o e) (by
      cases q:H b with
      | none=>rfl
      | some u =>
        have e':b = a:=hA b (by rw [q]; simp)
        subst e'
        rw [hK (by rw [q]; simp)] at e; cases e)
    have hM:Mod K mg (hidT s₁.heap H):=⟨hKb,nsK hns,⟨mb,nsK hb,hbb⟩,let ⟨mc,h1,h2⟩:=hlim; ⟨mc,nsK h1,h2⟩⟩
    have e0:Env0 P w K mg (hidT s₁.heap H) callerA [] s₁ H:=⟨rfl,hM,fun b o e=>of_hidT e,Nat.le_of_eq (hidT_size _ _),trivial,fun b hb=>absurd (show b∈([]:List Addr) from hb) (by simp),hok,.of_eq hg⟩
    refine codeAny_mono ((F _ hKb (nsK hns)).run callerA [] s₁ H ⟨[.ref a],[]⟩ [.ref a] [.ref a] _ _ hr e0 (hbind s₁ (.ref a)) (.cons rfl .nil) (hsp H hO hS)) fun r s' h=>?_
    cases r with
    | error e=>exact (hCX H e s' h).elim
    | ok fl =>
      cases fl with
      | next=>exact False.elim h
      | brk=>exact False.elim h
      | cont=>exact False.elim h
      | ret u =>
        obtain ⟨v,H',os,bare,un,hok',r',q⟩:=h
        have q':v = .bl true:=q
        subst q'
        obtain rfl:u = Value.bool true:=r'
        refine ⟨rfl,OldK.of_keep fun b o e=>?_,os,bare⟩
        cases q:H b with
        | none=>exact un.keep b o e q (by intro z; exact absurd (show b∈([]:List Addr) from z) (by simp)) (by simp)
        | some u =>
          rcases hO b with z | ⟨ob,xs,z⟩
          · rw [q] at z; cases z
          · have z2:=un.frzs b ob _ z
            obtain ⟨e1,_⟩:=hok b _ z
            obtain ⟨e2,_⟩:=hok' b _ z2
            rw [e] at e1; cases e1
            exact e2
  cases hk:K.lookup a with
  | some o =>
    have e:=KX a o hk
    rw [ha] at e
    cases e
    refine core (fun _=>none) (fun _=>.inl rfl) (.inr ⟨_,vs.toArray,_,hk,rfl,rfl,rfl,by rw [List.size_toArray,lenV]; exact hl,by simpa using rv⟩) (fun b u z=>by have z':(none:Option HO) = some u:=z; cases z') (fun b z=>absurd rfl z) fun z=>absurd rfl z
  | none =>
    refine core (fun b=>if b = a then some (.frz { cls:=.type "list", data:=.seq vs.toArray } (.lst (ns.map V.int))) else none) (fun b=>?_) (.inl (.inr ⟨{ cls:=.type "list", data:=.seq vs.toArray },if_pos rfl⟩)) (fun b u z=>?_) (fun b z=>?_) fun _=>hk
    · by_cases hb:b = a
      · exact .inr ⟨_,_,if_pos hb⟩
      · exact .inl (if_neg hb)
    · by_cases hb:b = a
      · have z':=(if_pos hb).symm.trans z
        cases z'
        subst hb
        exact ⟨ha,by rw [List.length_map]; exact hl,vs,_,rv,ha⟩
      · have z':=(if_neg hb).symm.trans z
        cases z'
    · by_cases hb:b = a
      · exact hb
      · exact absurd (if_neg hb) z
end L2
namespace L2
open PySem PySem.Spec PyProof.Rows
abbrev KOf {K:PySem.W.Frag} {h:Heap} (_:K.In h):PySem.W.Frag:=K
theorem walk_of {l:PySem.W.OpenLaw} {n k:Nat} {q:Program} {loose:List Str} {XP:(Str→Option Value)→Heap→Prop} {YP:World→Heap→Prop} {d:DefRec} {K:Params→PySem.W.Frag} {CX:World→CXT} {sp:World→Sp} {x:Str}
    (hn:l.most = some n) (hn2:n≤sizeLine) (hdf:d.params.defaults = []) (hr:Room k callerA)
    (hY:∀ (w:World) (h:Heap),YP w h→(K w.params).In h)
    (F:∀ (w:World) (mg:Str→Option Value) (fa:Addr) (h:Heap),(K w.params).In h→h.Ns mainGlobals mg→mg d.name = some (.ref fa) →
      ∃ fd:FuncData,(∀ (s:Shared) (u:Value),BindsTo s fd ⟨[u],[]⟩ [(x,u)]) ∧
        ∀ base:Heap,(K w.params).In base→base.Ns mainGlobals mg→FnOk l.prog w (K w.params) mg base (CX w) k fa fd [x] (sp w))
    (hsp:∀ (w:World) (H:Hp) (a:Addr) (ns:List Int),ns.length≤n→Only H→SqL (K w.params) H a (ns.map V.int)→sp w [.ref a] H (fun v _=>v = .bl true) fun _ _ _=>False)
    (hCX:∀ (w:World) (H:Hp) (s:Shared) (e:Value) (s':Shared),CX w [] H s (fun _ _ _=>False) e s'→False) :
    PySem.W.WalkO q loose XP YP l.row.toRowW d [] (fun f vs=>PySem.call f vs):=by
  refine Att.attach_call hn hdf fun w s₀ s₁ mg mb fa o pm cd doc a vs ns G Y ho hd hcd hmg hobj hints hlen hg=>?_
  have KX:=hY w _ Y
  obtain ⟨fd,hb,hF⟩:=F w mg fa _ KX G.T.g hmg
  exact law_call KX G.T.g G.T.b G.T.builtins G.T.nolimit hg hobj hints (Nat.le_trans hlen hn2) hr hF hb (fun H hO hS=>hsp w H a ns hlen hO hS) fun H e s'=>hCX w H s₁ e s'
theorem walk_ofK {l:PySem.W.OpenLaw} {n k:Nat} {q:Program} {loose:List Str} {XP:(Str→Option Value)→Heap→Prop} {YP:World→Heap→Prop} {d:DefRec} {K:Params→PySem.W.Frag} {CX:CXT} {sp:PySem.W.Frag→Sp} {x:Str}
    (hn:l.most = some n) (hn2:n≤sizeLine) (hdf:d.params.defaults = []) (hr:Room k callerA)
    (hY:∀ (w:World) (h:Heap),YP w h→(K w.params).In h)
    (F:∀ (w:World) (mg:Str→Option Value) (fa:Addr) (h:Heap),(K w.params).In h→h.Ns mainGlobals mg→mg d.name = some (.ref fa) →
      ∃ fd:FuncData,(∀ (s:Shared) (u:Value),BindsTo s fd ⟨[u],[]⟩ [(x,u)]) ∧
        ∀ base:Heap,(K w.params).In base→base.Ns mainGlobals mg→FnOk l.prog w (K w.params) mg base CX k fa fd [x] (sp (K w.params)))
    (hsp:∀ (K:PySem.W.Frag) (H:Hp) (a:Addr) (ns:List Int),ns.length≤n→Only H→SqL K H a (ns.map V.int)→sp K [.ref a] H (fun v _=>v = .bl true) fun _ _ _=>False)
    (hCX:∀ (H:Hp) (s:Shared) (e:Value) (s':Shared),CX [] H s (fun _ _ _=>False) e s'→False) :
    PySem.W.WalkO q loose XP YP l.row.toRowW d [] (fun f vs=>PySem.call f vs) :=
  walk_of (K:=K) (CX:=fun _=>CX) (sp:=fun w=>sp (K w.params)) hn hn2 hdf hr hY F (fun w H a ns h1 h2 h3=>hsp (K w.params) H a ns h1 h2 h3) fun _ H s e s'=>hCX H s e s'
end L2
/- THE LAST THEOREM (shape; LID,My.* are yours):
   My.Adr: a structure of the addresses that your layer names (classes,functions); My.Txt K t: a structure (Prop) of the equations over K;
   My.txt_mk:{K} {implicit addresses ..} (e1:nsIn K mainGlobals "law" = some (some (.ref f))) (e2:K.lookup f = some ⟨oc,od,.func (fnOf "law" "law" params body scope dV kV doc pm an cdv ct),sl⟩) (e3:codeIn K cdv "law" = true) ..:∃ t,My.Txt K t
set_option maxRecDepth 100000 in
set_option maxHeartbeats 0 in
theorem PySem.Challenge.cw_LID_holds:PySem.Challenge.rw_LID.Holds:=by
  w_on; o_law; k_head; (case hw=>w_witness2)
  k_fill
  refine L2.walk_of (l:=PySem.Challenge.rw_LID) (n:=63) (k:=40) (x := "script") (CX:=fun w=>..) (sp:=fun _=>My.sp_law) rfl (by decide) rfl ⟨rfl,by decide,by decide⟩ (fun w h Y=>PySem.W.kIn_of Y) ?F ?S ?C
  case F =>
    intro w mg fa h KX G hmg
    have T:∃ t,My.Txt (L2.KOf KX) t:=by
      dsimp only [L2.KOf]                          -- K must stand as «<heap const> w.params» for k_is
      refine' My.txt_mk ?e1 ?e2 ?e3 ..
      (case e1=>PySem.W.k_is)                    -- in the order: a name -> its address -> its object -> its parts
      (case e2=>PySem.W.k_is)
      ..
    obtain ⟨t,T⟩:=T
    have e0:=hmg.symm.trans (PySem.W.mg_of KX G T.law)
    cases e0                                       -- fa is the law's own address
    exact ⟨_,fun s u=>.of_eq rfl,fun base kb nb=>My.law_fn T kb nb⟩     -- if «.of_eq rfl» comes too early: refine' ⟨_,?b,fun base kb nb=>My.law_fn T kb nb⟩; exact fun s u=>.of_eq rfl
  case S=>exact fun w H a ns hl hO hS=>..
  case C=>exact ..
(the tactic k_is has no namespace: write k_is) -/
namespace L2
open PySem PySem.Spec PyProof.Rows
def inClass (s:Stmt) (j:Nat):Stmt:=match s with
  | .ClassDef _ _ _ body _ _ _ _ _ _ _=>body.getD j (.Pass ⟨0,0,0,0⟩)
  | _=>.Pass ⟨0,0,0,0⟩
def defArgs (s:Stmt):Arguments:=match s with
  | .FunctionDef _ a _ _ _ _ _ _ _ _=>a
  | _=>{ posonlyargs:=[],args:=[],vararg:=none,kwonlyargs:=[],kw_defaults:=[],kwarg:=none,defaults:=[] }
def defBody (s:Stmt):List Stmt:=match s with
  | .FunctionDef _ _ b _ _ _ _ _ _ _=>b
  | _=>[]
def defScope (s:Stmt):Scope:=match s with
  | .FunctionDef _ _ _ _ _ _ sc _ _ _=>sc
  | _=>{ kind:=.function,names:=[],isGenerator:=false,isCoroutine:=false }
abbrev CX0:CXT:=fun _ _ _ _ _ _=>False
abbrev E0:XK:=fun _ _ _=>False
theorem pass0 {X:Cx}:Passes CX0 X E0:=fun _ _ _ _ _ _ _ h=>h.elim
structure Fun (K:PySem.W.Frag) (x qual:Str) (st:Stmt) (f:Addr) (fd:FuncData):Prop where
  ex:∃ (oc:Value) (od:Option Addr) (kV doc pm:Value) (an:Option Addr) (cdv ct:Value) (osl:Array (Option Value)),
    fd = PySem.W.fnOf x qual (defArgs st) (defBody st) (defScope st) .none kV doc pm an cdv ct∧K.lookup f = some ⟨oc,od,.func fd,osl⟩∧PySem.W.codeIn K cdv qual = true
  kp:PySem.W.keepIn K (.ref f) = true
section
variable {P:Program} {w:World} {K:PySem.W.Frag} {mg:Str→Option Value} {base:Heap}
theorem Fun.ok {x qual:Str} {st:Stmt} {f:Addr} {fd:FuncData} {N ps:List Str} {k:Nat} {sp:Sp} (F:Fun K x qual st f fd) (S:FnScope N ps (defScope st)) (len:∀ vs H Q E,sp vs H Q E→vs.length = ps.length)
    (hbody:∀ (cdv:Value) (A:Around) (outer:List Env) (s:Shared) (H:Hp) (vs:List V) (Q:VK) (E:XK),Room k (A.deeper (envOfC qual (defScope st) s.heap.objs.size f cdv))→sp vs H Q E →
      ∃ t,PSs (cxOf CX0 P w K mg base N qual (defScope st) f cdv A outer s H E).nox (defBody st) t∧t { nx:=fun _ H'=>Q .non H',rt:=Q } (start N vs) H):FnOk P w K mg base CX0 (k + 1) f fd ps sp:=by
  obtain ⟨oc,od,kV,doc,pm,an,cdv,ct,osl,rfl,lk,hcd⟩:=F.ex
  refine fn_of lk hcd S len fun A outer s H vs Q E hr hsp=>?_
  obtain ⟨t,h,q⟩:=hbody cdv A outer s H vs Q E hr hsp
  exact ⟨t,h.nox,q⟩
theorem Fun.binds {x qual:Str} {st:Stmt} {f:Addr} {fd:FuncData} {ps:List Str} (F:Fun K x qual st f fd)
    (h:∀ (kV doc pm:Value) (an:Option Addr) (cdv ct:Value) (us:List Value),us.length = ps.length→bindArgs (PySem.W.fnOf x qual (defArgs st) (defBody st) (defScope st) .none kV doc pm an cdv ct) ⟨us,[]⟩ = pure (ps.zip us)):Binds K fd ps []:=by
  obtain ⟨oc,od,kV,doc,pm,an,cdv,ct,osl,rfl,lk,hcd⟩:=F.ex
  exact .all (h kV doc pm an cdv ct)
theorem fun_mk {x qual:Str} {st:Stmt} {f:Addr} {oc:Value} {od an:Option Addr} {osl:Array (Option Value)} {kV doc pm cdv ct:Value} (l:K.lookup f = some ⟨oc,od,.func (PySem.W.fnOf x qual (defArgs st) (defBody st) (defScope st) .none kV doc pm an cdv ct),osl⟩)
    (c:PySem.W.codeIn K cdv qual = true) (k:PySem.W.keepIn K (.ref f) = true):Fun K x qual st f (PySem.W.fnOf x qual (defArgs st) (defBody st) (defScope st) .none kV doc pm an cdv ct):=⟨⟨oc,od,kV,doc,pm,an,cdv,ct,osl,rfl,l,c⟩,k⟩
end
theorem hu_of {A:Around} {k:Nat} (hr:Room k A):A.units + 1 < cLine:=Nat.lt_of_le_of_lt (Nat.add_le_add_left (by decide:1≤64) _) hr.units
theorem small1000 {n:Nat} (h:n≤1000):n < sizeLine:=Nat.lt_of_le_of_lt h (by decide)
section
variable {X:Cx}
theorem pv (i:Nat) {x:Str} {pos:Pos} (hN:X.N[i]? = some x:=by rfl) (hv:Vis X.env.scope x:=by first | exact Or.inl rfl | exact Or.inr (Or.inl rfl) | exact Or.inr (Or.inr rfl)) (hd:(x == ("__debug__" : Str)) = false:=by decide)
    (hcd:(x == ("__classdict__" : Str)) = false:=by decide):PE X (.Name x pos) (tVar i):=pe_var hN hv hd hcd
end
theorem iteF {A B:Prop} (h:B):if false = true then A else B:=by
  rw [if_neg Bool.false_ne_true]
  exact h
theorem iteT {A B:Prop} (h:A):if true = true then A else B:=by
  rw [if_pos rfl]
  exact h
theorem ite2 {c A B:Prop} [Decidable c] (h1:c→A) (h2:¬ c→B):if c then A else B:=by
  by_cases h:c
  · rw [if_pos h]
    exact h1 h
  · rw [if_neg h]
    exact h2 h
def Same (H H':Hp):Prop:=∀ b o,H b = some o→H' b = some o
theorem Same.refl (H:Hp):Same H H:=fun _ _ h=>h
theorem Same.trans {H H1 H2:Hp} (a:Same H H1) (b:Same H1 H2):Same H H2:=fun c o h=>b c o (a c o h)
theorem Same.free {H H':Hp} (e:Same H H') {l:Addr} (h:H' l = Option.none):H l = Option.none:=by
  cases q:H l with
  | none=>rfl
  | some o =>
    rw [e l o q] at h
    cases h
theorem Same.seq {K:PySem.W.Frag} {H H':Hp} {a:Addr} {xs:List V} (e:Same H H') (h:SqL K H a xs):SqL K H' a xs:=by
  rcases h with (h | ⟨o,h⟩) | h
  · exact .inl (.inl (e _ _ h))
  · exact .inl (.inr ⟨o,e _ _ h⟩)
  · exact .inr h
end L2
set_option maxHeartbeats 8000000
namespace L2
open PySem PySem.Spec PyProof.Rows
section
variable {X:Cx} {pins:List (Addr × Obj)} {σ:St} {H:Hp} {s:Shared}
theorem HOk.track {P:Program} {w:World} {H:Hp} {h:Heap} {a:Addr} {o:HO} (x:HOk P w H h) (hn:H a = none) (new:ObjOk P w (upd H a o) h a o):HOk P w (upd H a o) h:=fun b u e=>by
  by_cases hb:b = a
  · subst hb
    rw [upd_same] at e
    cases e
    exact new
  · rw [upd_ne hb] at e
    refine (x b u e).stay (fun _ _ _ q=>q) (fun c q=>?_) (fun c xs q=>?_) fun c ob v q=>?_
    · rw [upd_ne (ne_of_none q hn)]; exact q
    · rw [upd_ne (ne_of_none q hn)]; exact q
    · rw [upd_ne (ne_of_none q hn)]; exact q
theorem Inv.track {a:Addr} {o:HO} (I:Inv X pins σ H s) (hn:H a = none) (hL:a≠X.env.locals) (h0:X.s₀.heap.objs.size≤a) (hc:∀ x c,X.env.cells.lookup x = some c→c≠a) (hp:∀ p∈X.pn ++ pins,p.1≠a)
    (new:ObjOk X.prog X.w (upd H a o) s.heap a o):Inv X pins σ (upd H a o) s:=by
  have old:∀ b ob,X.s₀.heap.get? b = some ob→b≠a:=fun b ob e=>Nat.ne_of_lt (Nat.lt_of_lt_of_le (Heap.lt_size e) h0)
  refine ⟨I.ok,I.os,I.bare,⟨fun b ob e n=>I.base.keep b ob e n,fun b ob e n=>I.base.slot b ob e n,fun b ob e n hx=>?_,fun b ob e hx=>I.base.there b ob e hx,fun b xs e=>?_,fun b ob u e=>?_,fun b ps e=>?_⟩,I.loc,I.cell,?_,fun x c e=>?_,fun p hm=>?_,I.hok.track hn new,I.len⟩
  · rw [upd_ne (old b ob e)]; exact I.base.free b ob e n hx
  · have q:=I.base.tups b xs e
    rw [upd_ne (ne_of_none q hn)]; exact q
  · have q:=I.base.frzs b ob u e
    rw [upd_ne (ne_of_none q hn)]; exact q
  · obtain ⟨mo,q⟩:=I.base.tbls b ps e
    exact ⟨mo,by rw [upd_ne (ne_of_none q hn)]; exact q⟩
  · rw [upd_ne (Ne.symm hL)]; exact I.free
  · rw [upd_ne (hc x c e)]; exact I.freeC x c e
  · obtain ⟨z1,z2,z3⟩:=I.pin p hm
    exact ⟨z1,by rw [upd_ne (hp p hm)]; exact z2,z3⟩
end
def clo:List (Str × NameKind)→List (Str × Addr)→List (Str × Addr)→List (Str × Addr)
  | [],_,acc=>acc
  | (n,k) :: r,cells,acc=>clo r cells (if k == .free then (match cells.lookup n with | some c=>(n,c) :: acc | none=>acc) else acc)
theorem clo_sound (cells:List (Str × Addr)):∀ (names:List (Str × NameKind)) (acc:List (Str × Addr)),(∀ y c,acc.lookup y = some c→cells.lookup y = some c)→∀ y c,(clo names cells acc).lookup y = some c→cells.lookup y = some c
  | [],acc,h=>h
  | (n,k) :: r,acc,h=>by
    refine clo_sound cells r _ fun y c e=>?_
    cases hk:k == NameKind.free with
    | false=>rw [hk] at e; exact h y c e
    | true =>
      rw [hk,if_pos rfl] at e
      cases hc:cells.lookup n with
      | none=>rw [hc] at e; exact h y c e
      | some a =>
        rw [hc] at e
        have e':(((n,a) :: acc).lookup y) = some c:=e
        rw [List.lookup_cons] at e'
        cases hy:y == n with
        | true =>
          rw [hy] at e'
          have z:y = n:=by simpa using hy
          subst z
          rw [hc]; exact e'
        | false=>rw [hy] at e'; exact h y c e'
theorem clo_keeps (cells:List (Str × Addr)):∀ (names:List (Str × NameKind)) (acc:List (Str × Addr)) (y:Str),(acc.lookup y).isSome = true→((clo names cells acc).lookup y).isSome = true
  | [],_,_,h=>h
  | (n,k) :: r,acc,y,h=>by
    refine clo_keeps cells r _ y ?_
    cases hk:k == NameKind.free with
    | false=>exact h
    | true =>
      rw [if_pos rfl]
      cases hc:cells.lookup n with
      | none=>exact h
      | some a =>
        show (((n,a) :: acc).lookup y).isSome = true
        rw [List.lookup_cons]
        cases hy:y == n with
        | true=>rfl
        | false=>exact h
theorem clo_has (cells:List (Str × Addr)):∀ (names:List (Str × NameKind)) (acc:List (Str × Addr)) (y:Str),(y,NameKind.free)∈names→(cells.lookup y).isSome = true→((clo names cells acc).lookup y).isSome = true
  | [],_,_,h,_=>by cases h
  | (n,k) :: r,acc,y,h,hs=>by
    rcases List.mem_cons.mp h with e | h
    · cases e
      refine clo_keeps cells r _ n ?_
      show (((match cells.lookup n with | some c=>(n,c) :: acc | none=>acc)).lookup n).isSome = true
      cases hc:cells.lookup n with
      | none=>rw [hc] at hs; cases hs
      | some a =>
        show (((n,a) :: acc).lookup n).isSome = true
        rw [List.lookup_cons]
        simp
    · exact clo_has cells r _ y h hs
theorem clo_run {env:Env}:∀ (names:List (Str × NameKind)) (acc:List (Str × Addr)),(∀ y,(y,NameKind.free)∈names→(env.cells.lookup y).isSome = true) →
    (forIn names acc fun (x:Str × NameKind) (cs:List (Str × Addr))=>if (x.2 == NameKind.free) = true then do let c ← cellOf env x.1; pure (ForInStep.yield ((x.1,c) :: cs)) else pure (ForInStep.yield cs):Sem (List (Str × Addr))) = pure (clo names env.cells acc)
  | [],acc,_=>rfl
  | (n,k) :: r,acc,h=>by
    have ih:=fun acc'=>clo_run (env:=env) r acc' fun y hy=>h y (List.mem_cons_of_mem _ hy)
    rw [List.forIn_cons]
    cases hk:k == NameKind.free with
    | false =>
      show ((pure (ForInStep.yield acc):Sem _) >>= _) = _
      rw [pure_bind]
      show (forIn r acc _:Sem _) = _
      rw [ih acc]
      show pure (clo r env.cells acc) = pure (clo r env.cells (if (k == NameKind.free) = true then (match env.cells.lookup n with | some c=>(n,c) :: acc | none=>acc) else acc))
      rw [hk]; rfl
    | true =>
      have hkf:k = NameKind.free:=by simpa using hk
      subst hkf
      have hs:=h n List.mem_cons_self
      cases hc:env.cells.lookup n with
      | none=>rw [hc] at hs; cases hs
      | some a =>
        have hcell:cellOf env n = pure a:=by unfold cellOf; rw [hc]
        show ((cellOf env n >>= fun c=>(pure (ForInStep.yield ((n,c) :: acc)):Sem _)) >>= _) = _
        rw [hcell,pure_bind,pure_bind]
        show (forIn r ((n,a) :: acc) _:Sem _) = _
        rw [ih]
        show pure (clo r env.cells ((n,a) :: acc)) = pure (clo r env.cells (match env.cells.lookup n with | some c=>(n,c) :: acc | none=>acc))
        rw [hc]
theorem closure_eq {sc:Scope} {env:Env} (h:∀ y,(y,NameKind.free)∈sc.names→(env.cells.lookup y).isSome = true):closureFor sc env = pure (clo sc.names env.cells []):=by
  unfold closureFor
  have:=clo_run (env:=env) sc.names [] h
  simpa using this
structure LcOk (osc sc:Scope) (x:Str) (fv:List Str):Prop where
  kind:sc.kind = .function
  nocell:∀ y∈sc.names,y.2≠.cell
  names:∀ y∈sc.names,y.2 = .local→sc.names.lookup y.1 = some .local
  hx:sc.names.lookup x = some .local
  fr:∀ y∈sc.names,y.2 = .free→osc.names.lookup y.1 = some .cell∨osc.names.lookup y.1 = some .free
  fvs:∀ y∈fv,sc.names.lookup y = some .free∧(osc.names.lookup y = some .cell∨osc.names.lookup y = some .free)
  nd:(x :: fv).Nodup
abbrev Cx.blk (X:Cx) (sc:Scope) (cl:List (Str × Addr)) (C:Addr) (N:List Str) (s:Shared) (H:Hp) (fp:List Addr):Cx :=
  { X with N:=N,s₀:=s,H₀:=H,env:=compEnvC sc cl C X.env,outer:=X.stack,ex:=fp,fn:=fun _=>false,pn:=[],xe:=fun _ _=>False }
abbrev lcN (X:Cx) (x:Str) (js:List Nat):List Str:=x :: js.map fun j=>X.N.getD j ""
abbrev lcS (σ:St) (js:List Nat) (x:Option V):St:=x :: js.map fun j=>σ.getD j none
theorem relabel_free {env:Env}:∀ {names:List (Str × NameKind)} {y:Str} {k:NameKind},(names.map fun (n,k)=>if (k == NameKind.free && env.scope.kind == .function && env.kindOf n == some .cell) then (n,NameKind.cell) else (n,k)).lookup y = some k→(k = .cell∨k = .free)→(∀ z∈names,z.2≠.cell)→(y,NameKind.free)∈names
  | [],_,_,h,_,_=>by simp at h
  | (n,k') :: r,y,k,h,hk,hn=>by
    by_cases hc:(k' == NameKind.free && env.scope.kind == .function && env.kindOf n == some .cell) = true
    · have hk':k' = NameKind.free:=by
        rw [Bool.and_eq_true,Bool.and_eq_true] at hc
        simpa using hc.1.1
      subst hk'
      rw [List.map_cons] at h
      cases hy:y == n with
      | true =>
        have z:y = n:=by simpa using hy
        subst z
        exact List.mem_cons_self
      | false =>
        have h':List.lookup y ((if (NameKind.free == NameKind.free && env.scope.kind == .function && env.kindOf n == some .cell) = true then (n,NameKind.cell) else (n,NameKind.free)) :: (r.map fun (n,k)=>if (k == NameKind.free && env.scope.kind == .function && env.kindOf n == some .cell) then (n,NameKind.cell) else (n,k))) = some k:=h
        rw [if_pos hc,List.lookup_cons,hy] at h'
        exact List.mem_cons_of_mem _ (relabel_free h' hk fun z hz=>hn z (List.mem_cons_of_mem _ hz))
    · have h':List.lookup y ((if (k' == NameKind.free && env.scope.kind == .function && env.kindOf n == some .cell) = true then (n,NameKind.cell) else (n,k')) :: (r.map fun (n,k)=>if (k == NameKind.free && env.scope.kind == .function && env.kindOf n == some .cell) then (n,NameKind.cell) else (n,k))) = some k:=h
      rw [if_neg hc,List.lookup_cons] at h'
      cases hy:y == n with
      | true =>
        rw [hy] at h'
        cases h'
        have z:y = n:=by simpa using hy
        subst z
        rcases hk with e | e
        · exact absurd e (hn _ List.mem_cons_self)
        · subst e; exact List.mem_cons_self
      | false =>
        rw [hy] at h'
        exact List.mem_cons_of_mem _ (relabel_free h' hk fun z hz=>hn z (List.mem_cons_of_mem _ hz))
theorem relabel_fv {env:Env}:∀ {names:List (Str × NameKind)} {y:Str},names.lookup y = some .free→(names.map fun (n,k)=>if (k == NameKind.free && env.scope.kind == .function && env.kindOf n == some .cell) then (n,NameKind.cell) else (n,k)).lookup y = some .cell∨(names.map fun (n,k)=>if (k == NameKind.free && env.scope.kind == .function && env.kindOf n == some .cell) then (n,NameKind.cell) else (n,k)).lookup y = some .free
  | [],_,h=>by simp at h
  | (n,k') :: r,y,h=>by
    rw [List.lookup_cons] at h
    rw [List.map_cons]
    cases hy:y == n with
    | true =>
      rw [hy] at h
      cases h
      by_cases hc:(NameKind.free == NameKind.free && env.scope.kind == .function && env.kindOf n == some .cell) = true
      · refine .inl ?_
        show List.lookup y ((if (NameKind.free == NameKind.free && env.scope.kind == .function && env.kindOf n == some .cell) = true then (n,NameKind.cell) else (n,NameKind.free)) :: _) = _
        rw [if_pos hc,List.lookup_cons,hy]
      · refine .inr ?_
        show List.lookup y ((if (NameKind.free == NameKind.free && env.scope.kind == .function && env.kindOf n == some .cell) = true then (n,NameKind.cell) else (n,NameKind.free)) :: _) = _
        rw [if_neg hc,List.lookup_cons,hy]
    | false =>
      rw [hy] at h
      have ih:=relabel_fv (env:=env) h
      by_cases hc:(k' == NameKind.free && env.scope.kind == .function && env.kindOf n == some .cell) = true
      · show List.lookup y ((if (k' == NameKind.free && env.scope.kind == .function && env.kindOf n == some .cell) = true then (n,NameKind.cell) else (n,k')) :: _) = _∨List.lookup y ((if (k' == NameKind.free && env.scope.kind == .function && env.kindOf n == some .cell) = true then (n,NameKind.cell) else (n,k')) :: _) = _
        rw [if_pos hc,List.lookup_cons,hy]
        exact ih
      · show List.lookup y ((if (k' == NameKind.free && env.scope.kind == .function && env.kindOf n == some .cell) = true then (n,NameKind.cell) else (n,k')) :: _) = _∨List.lookup y ((if (k' == NameKind.free && env.scope.kind == .function && env.kindOf n == some .cell) = true then (n,NameKind.cell) else (n,k')) :: _) = _
        rw [if_neg hc,List.lookup_cons,hy]
        exact ih
end L2
namespace L2
open PySem PySem.Spec PyProof.Rows
abbrev lstObj (its:List Value) (n:Nat):Obj:={ cls:=.type "list", data:=.seq its.toArray n }
abbrev lcTests (ifs:List Expr) (env:Env):Sem Bool :=
  forIn ifs true fun c r=>if r = true then do let ok ← isTrue c env (eval c env); pure (ForInStep.yield ok) else pure (ForInStep.yield r)
def tLC (wi:TI) (js:List Nat) (tt:TT) (te:TE):TE:=fun σ H Q=>wi σ H fun J H1=>∃ W:Nat→Nat→List V→Hp→Prop,(∃ m,W 0 m [] H1)∧∀ i m ys H,W i m ys H →
  (J.stop i H∧∀ p,H p = none→Q (.ref p) (upd H p (.lst ys))) ∨
  (J.go i H∧ys.length < sizeLine∧∀ x H',J.yld i H x H'→tt (lcS σ js (some x)) H' fun b H2 =>
    if b = true then te (lcS σ js (some x)) H2 fun v H3=>∃ m',m' < m∧W (i + 1) m' (ys ++ [v]) H3 else ∃ m',m' < m∧W (i + 1) m' ys H2)
section
variable {X:Cx} {sc osc:Scope} {x:Str} {js:List Nat} {elt iter:Expr} {px pos:Pos} {ifs:List Expr} {wi:TI} {tt:TT} {te:TE}
theorem lc_loop {P:Program} {w:World} {A:Around} {R:Result→Shared→Prop} {st:Shared} {tg it acc} {cenv:Env} (Iv:Nat→Shared→Prop)
    (step:∀ k st,Iv k st→wpAny (model P w) A (pyNext it) (fun got s1=>match got with
      | none=>R (.ok .next) s1
      | some v=>wpAny (model P w) A (letOwnedTupleGo tg it v) (fun _ s2=>wpAny (model P w) A (assign tg cenv v) (fun _ s3 =>
          wpAny (model P w) A (lcTests ifs cenv) (fun ok s4=>if ok = true then wpAny (model P w) A (eval elt cenv) (fun y s5 =>
              wpAny (model P w) A (call (.builtin "list.append") [acc,y]) (fun _ s6=>∃ k',k' < k∧Iv k' s6) (notedBy (model P w) A cenv fun e z=>R (.error e) z) s5) (notedBy (model P w) A cenv fun e z=>R (.error e) z) s4
            else ∃ k',k' < k∧Iv k' s4) (notedBy (model P w) A cenv fun e z=>R (.error e) z) s3) (notedBy (model P w) A cenv fun e z=>R (.error e) z) s2) (notedBy (model P w) A cenv fun e z=>R (.error e) z) s1)
      (notedBy (model P w) A cenv fun e z=>R (.error e) z) st) (k0:Nat) (h0:Iv k0 st) :
    codeAny (model P w) A (.compLoop (.ListComp elt [⟨tg,iter,ifs,0⟩] sc pos) 0 it acc cenv) R st:=by
  refine codeAny_loop rfl Iv (fun k st hk=>?_) k0 h0
  show wpAny _ A ((compTurn (.ListComp elt [⟨tg,iter,ifs,0⟩] sc pos) 0 it acc cenv).onRaise (fun e=>do noteFrame e cenv; theTreesLotGoes e)) _ _ st
  refine wpAny_noted ?_
  rw [compTurn_list]
  refine wpAny_bind (wpAny_standAt (wpAny_bind (wpAny_mono (step k st hk) (fun got s1 h1=>?_) fun _ _ z=>z)))
  cases got with
  | none=>exact wpAny_pure h1
  | some v =>
    refine wpAny_bind (wpAny_mono h1 (fun _ s2 h2=>?_) fun _ _ z=>z)
    refine wpAny_bind (wpAny_mono h2 (fun _ s3 h3=>wpAny_bind (wpAny_mono h3 (fun ok s4 h4=>?_) fun _ _ z=>z)) fun _ _ z=>z)
    cases ok with
    | false=>exact wpAny_pure ⟨rfl,h4⟩
    | true=>exact wpAny_bind (wpAny_bind (wpAny_mono h4 (fun y s5 h5=>wpAny_bind (wpAny_mono h5 (fun _ s6 h6=>wpAny_pure (wpAny_pure ⟨rfl,h6⟩)) fun _ _ z=>z)) fun _ _ z=>z))
structure Own (X:Cx) (pins:List (Addr × Obj)) (H:Hp) (a:Addr):Prop where
  free:H a = none
  loc:a≠X.env.locals
  new:X.s₀.heap.objs.size≤a
  cel:∀ x c,X.env.cells.lookup x = some c→c≠a
  pin:∀ p∈X.pn ++ pins,p.1≠a
  fs:a ∉ X.fs
end
structure LcOkG (osc sc:Scope) (xs:List Str) (fv:List Str):Prop where
  kind:sc.kind = .function
  nocell:∀ y∈sc.names,y.2≠.cell
  names:∀ y∈sc.names,y.2 = .local→sc.names.lookup y.1 = some .local
  fr:∀ y∈sc.names,y.2 = .free→osc.names.lookup y.1 = some .cell∨osc.names.lookup y.1 = some .free
  fvs:∀ y∈fv,sc.names.lookup y = some .free∧(osc.names.lookup y = some .cell∨osc.names.lookup y = some .free)
abbrev lcG (X:Cx) (xs:List Str) (js:List Nat):List Str:=xs ++ js.map fun j=>X.N.getD j ""
abbrev lcT (σ:St) (js:List Nat) (os:List (Option V)):St:=os ++ js.map fun j=>σ.getD j none
section
variable {X:Cx} {sc osc:Scope} {xs:List Str} {js:List Nat}
theorem blk_okG {pins:List (Addr × Obj)} {σ:St} {H:Hp} {s:Shared} {fp:List Addr} {C:Addr} (I:Inv X pins σ H s) (hosc:X.env.scope = osc) (L:LcOkG osc sc xs (js.map fun j=>X.N.getD j ""))
    (f2:∀ b∈fp,FpOk X pins H b) (lt:∀ b∈fp,b < s.heap.objs.size) (hC:s.heap.objs.size≤C):(X.blk sc (clo sc.names X.env.cells []) C (lcG X xs js) s H fp).Ok where
  mod:=I.ok.mod
  kind:=L.kind
  glob:=I.ok.glob
  blt:=I.ok.blt
  above:=hC
  inj:=fun y z c h1 h2=>I.ok.inj y z c (clo_sound _ _ [] (fun _ _ e=>by simp at e) y c h1) (clo_sound _ _ [] (fun _ _ e=>by simp at e) z c h2)
  has:=fun y hy=>by
    have hy':(relabel sc X.env).names.lookup y = some .cell∨(relabel sc X.env).names.lookup y = some .free:=hy
    have hm:(y,NameKind.free)∈sc.names:=by
      rcases hy' with e | e
      · exact relabel_free e (.inl rfl) L.nocell
      · exact relabel_free e (.inr rfl) L.nocell
    have ho:X.env.kindOf y = some .cell∨X.env.kindOf y = some .free:=by
      show X.env.scope.names.lookup y = _∨X.env.scope.names.lookup y = _
      rw [hosc]
      exact L.fr _ hm rfl
    obtain ⟨c,e⟩:=I.ok.has y ho
    exact Option.isSome_iff_exists.mp (clo_has _ _ [] y hm (by rw [e]; rfl))
  cab:=fun y c h=>by cases h
  hd:=I.ok.hd
  frames:=I.ok.frames
  stk:=.inl rfl
  exf:=fun b hb=>⟨Nat.ne_of_lt (Nat.lt_of_lt_of_le (lt b hb) hC),fun y c e=>(f2 b hb).2.2.2.2.1 y c (clo_sound _ _ [] (fun _ _ e=>by simp at e) y c e)⟩
  bs:=I.bs
  bsz:=Nat.le_trans I.ok.bsz I.sz
  noex:=fun b o e hb=>by
    rcases (f2 b hb).2.2.2.1 with z | z
    · exact I.ok.noex b o e z
    · exact absurd (Nat.lt_of_lt_of_le (Heap.lt_size (I.ok.bs b o e).1) z) (Nat.lt_irrefl _)
  exfs:=fun b hb hm=>by
    rcases List.mem_cons.mp (I.stkSub b hm) with z | z
    · exact (f2 b hb).2.1 z
    · exact (f2 b hb).2.2.1 z
  funs:=I.stack
  frf:=I.stkFree
end
section
variable {X:Cx} {sc osc:Scope} {xs:List Str} {js:List Nat} {tg:Expr} {g:TG} {elt iter:Expr} {px pos:Pos} {ifs:List Expr} {wi:TI} {tt:TT} {te:TE}
theorem lc_turnG {cl:List (Str × Addr)} {C D:Addr} {s₂:Shared} {H₂:Hp} {fp:List Addr} {pl:List (Addr × Obj)} {σ0:St} {H:Hp} {s:Shared} {u:Value} {v:V} {its:List Value} {n:Nat} {o0:List (Option V)} {E:Value→Shared→Prop}
    {Ny:V→Hp→Prop} {Nn:Hp→Prop}
    (hg:PG (X.blk sc cl C (lcG X xs js) s₂ H₂ fp) tg g)
    (I:Inv (X.blk sc cl C (lcG X xs js) s₂ H₂ fp) ((D,lstObj its n) :: pl) (lcT σ0 js o0) H s) (ru:RelV v u)
    (ht:∀ (pins:List (Addr × Obj)) (s':Shared) (σ':St) (H':Hp) (Q:Bool→Hp→Prop),Inv (X.blk sc cl C (lcG X xs js) s₂ H₂ fp) pins σ' H' s'→tt σ' H' Q →
      wpAny (model X.prog X.w) X.A (lcTests ifs (compEnvC sc cl C X.env)) (TP (X.blk sc cl C (lcG X xs js) s₂ H₂ fp) pins σ' Q) (fun _ _=>False) s')
    (he:PE (X.blk sc cl C (lcG X xs js) s₂ H₂ fp) elt te)
    (hlen:its.length < sizeLine) (hD0:s₂.heap.objs.size≤D) (hDC:D≠C) (hDc:∀ y c,cl.lookup y = some c→c≠D) (hDp:∀ p∈pl,p.1≠D)
    (h:g v (lcT σ0 js o0) H fun σ2 H1=>∃ o1,σ2 = lcT σ0 js o1∧o1.length = xs.length∧tt σ2 H1 fun b H2=>if b = true then te σ2 H2 Ny else Nn H2) :
    wpAny (model X.prog X.w) X.A (assign tg (compEnvC sc cl C X.env) u) (fun _ s2 =>
      wpAny (model X.prog X.w) X.A (lcTests ifs (compEnvC sc cl C X.env)) (fun ok s3 =>
        if ok = true then wpAny (model X.prog X.w) X.A (eval elt (compEnvC sc cl C X.env)) (fun y s4 =>
          wpAny (model X.prog X.w) X.A (call (.builtin "list.append") [.ref D,y]) (fun _ s5=>∃ z y' H5 o1,o1.length = xs.length∧Ny z H5∧RelV z y'∧Inv (X.blk sc cl C (lcG X xs js) s₂ H₂ fp) ((D,lstObj (its ++ [y']) (n + 1)) :: pl) (lcT σ0 js o1) H5 s5) E s4) E s3
        else ∃ H5 o1,o1.length = xs.length∧Nn H5∧Inv (X.blk sc cl C (lcG X xs js) s₂ H₂ fp) ((D,lstObj its n) :: pl) (lcT σ0 js o1) H5 s3) E s2) E s:=by
  refine wpAny_mono (hg _ s _ H v u _ I ru h) (fun _ s2 ⟨σ6,H6,I6,o1,e1,l1,h6⟩=>?_) fun _ _ z=>False.elim z
  subst e1
  refine wpAny_mono (ht _ s2 _ _ _ I6 h6) (fun ok s3 ⟨H7,I7,q7⟩=>?_) fun _ _ z=>False.elim z
  cases ok with
  | false =>
    rw [if_neg Bool.false_ne_true] at q7 ⊢
    exact ⟨H7,o1,l1,q7,I7⟩
  | true =>
    rw [if_pos rfl] at q7 ⊢
    refine wpAny_mono (he _ s3 _ H7 _ I7 q7) (fun y s4 ⟨z,H8,I8,r8,q8⟩=>?_) fun _ _ z=>False.elim z
    obtain ⟨p1,p2,p3,p4,p5⟩:=I8.pin (D,lstObj its n) (List.mem_append_right _ List.mem_cons_self)
    have p1':s4.heap.get? D = some { cls:=.type "list", data:=.seq its.toArray n }:=p1
    refine call_meets F.slot_list_append ⟨_,p1',rfl⟩ F.entry_list_append (F.args_list_append_2 _ _) (PySem.list_append D its.toArray n y (by rw [List.size_toArray]; omega)) ⟨p1',?_⟩
    have q:=PySem.IsL.update p1' (fun a=>a.push y)
    have sz:((its.toArray.push y).size == its.toArray.size) = false:=by simp
    have e3:(s4.heap.update D (Obj.mapSeq fun a=>a.push y)).get? D = some (lstObj (its ++ [y]) (n + 1)):=by
      have q':(s4.heap.update D (Obj.mapSeq fun a=>a.push y)).get? D = some { cls:=.type "list", data:=.seq (its.toArray.push y) (if ((its.toArray.push y).size == its.toArray.size) = true then n else n + 1) }:=q
      rw [q',sz,if_neg Bool.false_ne_true]
      simp
    have I9:Inv (X.blk sc cl C (lcG X xs js) s₂ H₂ fp) pl (lcT σ0 js o1) H8 s4:=I8.pins_of fun p hp=>I8.pin p (List.mem_append_right _ (List.mem_cons_of_mem _ hp))
    have oth:∀ b o,b≠D→s4.heap.get? b = some o→(s4.heap.update D (Obj.mapSeq fun a=>a.push y)).get? b = some o:=fun b o hb e=>(Heap.get?_update_other _ _ (Ne.symm hb)).trans e
    have I10:=I9.turned (t':=s4.toks) (h':=s4.heap.update D (Obj.mapSeq fun a=>a.push y)) (it:=D) oth p2 hDC (.inr hD0) hDc (fun p hp=>hDp p hp)
    refine ⟨z,y,H8,o1,l1,q8,r8,I10.pins_of fun p hp=>?_⟩
    rcases List.mem_cons.mp hp with e | e
    · subst e
      exact ⟨e3,p2,p3,p4,fun w hw=>by cases hw⟩
    · exact I10.pin p (List.mem_append_right _ e)
theorem lc_coreG {use:Option (Value→Sem Unit)} {QQ:Value→Shared→Prop} {Fin:List V→Hp→Prop} {pins:List (Addr × Obj)} {s:Shared} {σ:St} {H:Hp} (hosc:X.env.scope = osc) (L:LcOkG osc sc xs (js.map fun j=>X.N.getD j "")) {rd:Cx→Prop} (hc:∀ sc cl C N s H fp,rd (X.blk sc cl C N s H fp)) (hi:PIr rd X tg iter wi) (hg:∀ (cl:List (Str × Addr)) (C:Addr) (s₂:Shared) (H₂:Hp) (fp:List Addr),PG (X.blk sc cl C (lcG X xs js) s₂ H₂ fp) tg g) (hjs:∀ j∈js,j < X.N.length)
    (ht:∀ (cl:List (Str × Addr)) (C:Addr) (s₂:Shared) (H₂:Hp) (fp:List Addr) (pins:List (Addr × Obj)) (s':Shared) (σ':St) (H':Hp) (Q:Bool→Hp→Prop),Inv (X.blk sc cl C (lcG X xs js) s₂ H₂ fp) pins σ' H' s'→tt σ' H' Q →
      wpAny (model X.prog X.w) X.A (lcTests ifs (compEnvC sc cl C X.env)) (TP (X.blk sc cl C (lcG X xs js) s₂ H₂ fp) pins σ' Q) (fun _ _=>False) s')
    (he:∀ (cl:List (Str × Addr)) (C:Addr) (s₂:Shared) (H₂:Hp) (fp:List Addr),PE (X.blk sc cl C (lcG X xs js) s₂ H₂ fp) elt te)
    (hs:∀ x,foldedSetIterable iter X.env x = pure x) (I:Inv X pins σ H s)
    (h:wi σ H fun J H1=>∃ W:Nat→Nat→List V→Hp→Prop,(∃ m,W 0 m [] H1)∧∀ i m ys H,W i m ys H→(J.stop i H∧Fin ys H) ∨
      (J.go i H∧ys.length < sizeLine∧∀ x H',J.yld i H x H'→∀ o0:List (Option V),o0.length = xs.length→g x (lcT σ js o0) H' fun σ2 H1=>∃ o1,σ2 = lcT σ js o1∧o1.length = xs.length∧tt σ2 H1 fun b H2 =>
        if b = true then te σ2 H2 fun v H3=>∃ m',m' < m∧W (i + 1) m' (ys ++ [v]) H3 else ∃ m',m' < m∧W (i + 1) m' ys H2))
    (hfin:∀ (D C:Addr) (s5:Shared) (H5:Hp) (ys:List V) (its:List Value) (k:Nat) (m5:Str→Option Value),Inv X pins σ H5 s5→Own X pins H5 D→Own X pins H5 C→D≠C→s5.heap.get? D = some (lstObj its k)→Vals ys its→ys.length≤sizeLine→s5.heap.Ns C m5→Fin ys H5 →
      compPost (model X.prog X.w) X.A X.xe use QQ (.ref D) C (.ok .next) s5) :
    wpAny (model X.prog X.w) X.A (comprehension (.ListComp elt [⟨tg,iter,ifs,0⟩] sc pos) sc X.env (firstIterPos [⟨tg,iter,ifs,0⟩] pos) (newList []) false (eval iter X.env) use) QQ X.xe s:=by
  have hcl:closureFor sc X.env = pure (clo sc.names X.env.cells []):=closure_eq fun y hy=>by
    have ho:X.env.kindOf y = some .cell∨X.env.kindOf y = some .free:=by
      show X.env.scope.names.lookup y = _∨X.env.scope.names.lookup y = _
      rw [hosc]
      exact L.fr _ hy rfl
    obtain ⟨c,e⟩:=I.ok.has y ho
    rw [e]; rfl
  refine wpAny_comprehension_free (use:=use) rfl hs hcl L.kind L.names (thn (hi pins s σ H _ I h) fun v s1 h1=>thn h1 fun itv s2 h2=>?_)
  obtain ⟨it,fp,tn,J,H2,e,I2,T,st2,f2,W,⟨m0,w0⟩,turn⟩:=h2
  subst e
  refine wpAny_newObj_type (wpAny_newFunctionEnv L.nocell (by intro y hy; simp at hy) (fun h₁ hns₁ hsb₁=>?_) L.kind)
  dsimp only at hns₁ hsb₁ ⊢
  generalize hG:s2.heap.push { cls:=.type "list", dict:=none,data:=.seq ([]:List Value).toArray } = G at hns₁ hsb₁ ⊢
  have hGs:G.objs.size = s2.heap.objs.size + 1:=by rw [← hG,Heap.size_push]
  have hCle:s2.heap.objs.size≤G.objs.size:=by rw [hGs]; exact Nat.le_succ _
  have hDC:s2.heap.objs.size≠G.objs.size:=by rw [hGs]; exact Nat.ne_of_lt (Nat.lt_succ_self _)
  have old:∀ b o,s2.heap.get? b = some o→h₁.get? b = some o:=fun b o e=>by
    have lt:=Heap.lt_size e
    refine hsb₁.extBut b o (Nat.ne_of_lt (Nat.lt_of_lt_of_le lt hCle)) (Heap.get?_push_of_some _ ?_)
    rw [← hG]
    exact Heap.get?_push_of_some _ e
  have hacc:h₁.get? s2.heap.objs.size = some (lstObj [] 0):=by
    refine hsb₁.extBut _ _ hDC (Heap.get?_push_of_some _ ?_)
    rw [← hG]
    exact Heap.get?_push_size _ rfl
  have lt:∀ b∈fp,b < s2.heap.objs.size:=fun b hb=>by
    obtain ⟨o,e,_⟩:=T.obj _ _ st2 b hb
    exact Heap.lt_size e
  have clS:∀ y c,(clo sc.names X.env.cells []).lookup y = some c→X.env.cells.lookup y = some c:=clo_sound _ _ [] (fun _ _ e=>by simp at e)
  have clLt:∀ y c,(clo sc.names X.env.cells []).lookup y = some c→c < s2.heap.objs.size:=fun y c e=>by
    obtain ⟨v,o,q,_⟩:=I2.cell y c (clS y c e)
    exact Heap.lt_size q
  have Bok:(X.blk sc (clo sc.names X.env.cells []) G.objs.size (lcG X xs js) s2 H2 fp).Ok:=blk_okG I2 hosc L f2 lt hCle
  have fresh:∀ a,s2.heap.objs.size≤a→H2 a = none:=fun a ha=>I2.hok.fresh ha
  have frs_lt:∀ b∈frs X.stack,b < s2.heap.objs.size:=fun b hb=>by
    rcases List.mem_cons.mp (I2.stkSub b hb) with z | z
    · rw [z]; exact I2.lt
    · refine Nat.lt_of_not_le fun q=>I2.nofs q z
  have B0:Inv (X.blk sc (clo sc.names X.env.cells []) G.objs.size (lcG X xs js) s2 H2 fp) [(s2.heap.objs.size,lstObj [] 0)] (lcT σ js (List.replicate xs.length none)) H2 { s2 with heap:=h₁,toks:=s2.toks + ([]:List (Str × Value)).length }:=by
    refine ⟨Bok,rfl,I2.bare,Un.kept old,⟨_,hns₁,fun i y v e1 e2 e3=>?_⟩,fun y c e=>?_,fresh _ hCle,fun y c e=>I2.freeC y c (clS y c e),fun p hp=>?_,I2.hok.kept old,?_⟩
    · by_cases hlt:i < xs.length
      · exfalso
        have e2'':(List.replicate xs.length (none:Option V) ++ js.map fun j=>σ.getD j none)[i]? = some (some v):=e2
        rw [List.getElem?_append_left (by rw [List.length_replicate]; exact hlt),List.getElem?_replicate,if_pos hlt] at e2''
        cases e2''
      · have e1':(js.map fun j=>X.N.getD j "")[i - xs.length]? = some y:=by
          have z:(xs ++ js.map fun j=>X.N.getD j "")[i]? = some y:=e1
          rw [List.getElem?_append_right (by omega)] at z
          exact z
        have e2':(js.map fun j=>σ.getD j none)[i - xs.length]? = some (some v):=by
          have z:(List.replicate xs.length (none:Option V) ++ js.map fun j=>σ.getD j none)[i]? = some (some v):=e2
          rw [List.getElem?_append_right (by rw [List.length_replicate]; omega),List.length_replicate] at z
          exact z
        have e1s:=e1'
        rw [List.getElem?_map] at e1' e2'
        cases hj:js[i - xs.length]? with
        | none=>rw [hj] at e1'; cases e1'
        | some j =>
          rw [hj] at e1' e2'
          have e4:X.N.getD j "" = y:=Option.some.inj e1'
          have e5:σ.getD j none = some v:=Option.some.inj e2'
          have hjl:=hjs j (List.mem_of_getElem? hj)
          have e6:X.N[j]? = some y:=by
            rw [List.getD_eq_getElem?_getD,List.getElem?_eq_getElem hjl] at e4
            rw [List.getElem?_eq_getElem hjl]
            exact congrArg some e4
          have e7:σ[j]? = some (some v):=by
            rw [List.getD_eq_getElem?_getD] at e5
            cases hq:σ[j]? with
            | none=>rw [hq] at e5; cases e5
            | some w=>rw [hq] at e5; exact congrArg some e5
          obtain ⟨hm0,hk⟩:=L.fvs y (List.mem_of_getElem? e1s)
          have hm:(y,NameKind.free)∈sc.names:=PySem.mem_of_lookup hm0
          have hk':X.env.kindOf y = some .cell∨X.env.kindOf y = some .free:=by
            show X.env.scope.names.lookup y = _∨X.env.scope.names.lookup y = _
            rw [hosc]; exact hk
          have hv:Vis X.env.scope y:=by rcases hk' with z | z; exact .inr (.inl z); exact .inr (.inr z)
          obtain ⟨m,hn,hl⟩:=I2.loc
          obtain ⟨u,r,l⟩:=hl j y v e6 e7 hv
          refine ⟨u,r,.inr ?_⟩
          rcases l with ⟨z,_⟩ | ⟨_,c,hc1,hc2⟩
          · rw [z] at hk'; rcases hk' with q | q <;> cases q
          · have hs2:((clo sc.names X.env.cells []).lookup y).isSome = true:=clo_has _ _ [] y hm (by rw [hc1]; rfl)
            obtain ⟨c',hc'⟩:=Option.isSome_iff_exists.mp hs2
            have hcc:c' = c:=by have:=clS y c' hc'; rw [hc1] at this; exact (Option.some.inj this).symm
            subst hcc
            obtain ⟨o,ho,hd⟩:=hc2
            exact ⟨relabel_fv hm0,c',hc',o,old _ o ho,hd⟩
    · obtain ⟨v,o,q,d⟩:=I2.cell y c (clS y c e)
      exact ⟨v,o,old _ o q,d⟩
    · have e:p = (s2.heap.objs.size,lstObj [] 0):=by simpa using hp
      subst e
      exact ⟨hacc,fresh _ (Nat.le_refl _),hDC,fun z=>Nat.lt_irrefl _ (frs_lt _ z),fun w hw=>by cases hw⟩
    · show _ = (lcG X xs js).length
      simp
  have stat:∀ {H':Hp} {pl:List (Addr × Obj)},(∀ b∈fp,H' b = none)→(∀ p∈pl,p.1 = s2.heap.objs.size)→∀ b∈fp,FpOk (X.blk sc (clo sc.names X.env.cells []) G.objs.size (lcG X xs js) s2 H2 fp) pl H' b:=fun hn hp b hb =>
    ⟨hn b hb,(Bok.exf b hb).1,Bok.exfs b hb,.inl hb,(Bok.exf b hb).2,fun p hm=>by
      rw [hp p (by simpa using hm)]
      exact Ne.symm (Nat.ne_of_lt (lt b hb))⟩
  have loop:∀ s3:Shared,s3 = { s2 with heap:=h₁,toks:=s2.toks + ([]:List (Str × Value)).length } →
      codeAny (model X.prog X.w) X.A (.compLoop (.ListComp elt [⟨tg,iter,ifs,0⟩] sc pos) 0 (.ref it) (.ref s2.heap.objs.size) (compEnvC sc (clo sc.names X.env.cells []) G.objs.size X.env))
        (compPost (model X.prog X.w) X.A X.xe use QQ (.ref s2.heap.objs.size) G.objs.size) s3:=by
    rintro s3 rfl
    refine lc_loop (fun n s'=>∃ i ys its k o0 H',o0.length = xs.length∧Inv (X.blk sc (clo sc.names X.env.cells []) G.objs.size (lcG X xs js) s2 H2 fp) [(s2.heap.objs.size,lstObj its k)] (lcT σ js o0) H' s'∧tn i s'.heap∧(∀ b∈fp,H' b = none)∧Vals ys its∧ys.length≤sizeLine∧W i n ys H') ?_ m0
      ⟨0,[],[],0,List.replicate xs.length none,H2,List.length_replicate,B0,T.keep _ _ _ st2 fun b _ o e=>old b o e,fun b hb=>(f2 b hb).1,.nil,Nat.zero_le _,w0⟩
    rintro n s4 ⟨i,ys,its,k,o0,H4,lo0,I4,st4,fr4,vs4,z4,w4⟩
    have one:∀ p∈[(s2.heap.objs.size,lstObj its k)],p.1 = s2.heap.objs.size:=fun p hp=>by
      have e:p = (s2.heap.objs.size,lstObj its k):=by simpa using hp
      rw [e]
    rcases turn i n ys H4 w4 with ⟨stop,qn⟩ | ⟨go,zl,step⟩
    · refine thn (T.done (X.blk sc (clo sc.names X.env.cells []) G.objs.size (lcG X xs js) s2 H2 fp) rfl rfl rfl (hc _ _ _ _ _ _ _) i _ s4 _ H4 _ I4 (stat fr4 one) st4 stop) fun r s5 ⟨hr,I5⟩=>?_
      subst hr
      obtain ⟨m5,hn5,_⟩:=I5.loc
      obtain ⟨p1,p2,p3,p4,p5⟩:=I5.pin (s2.heap.objs.size,lstObj its k) (by simp)
      have ch:∀ b∈fp,(b∈X.ex∨X.s₀.heap.objs.size≤b)∧b≠X.env.locals∧(∀ x c,X.env.cells.lookup x = some c→c≠b)∧∀ p∈X.pn ++ pins,p.1≠b:=fun b hb =>
        ⟨(f2 b hb).2.2.2.1,(f2 b hb).2.1,(f2 b hb).2.2.2.2.1,(f2 b hb).2.2.2.2.2⟩
      have J1:Inv X pins σ H4 s5:=I2.call' I5.os I5.base I5.hok I5.bare ch
      have ltp:∀ p∈X.pn ++ pins,p.1 < s2.heap.objs.size:=fun p hp=>Heap.lt_size (I2.pin p hp).1
      have ltc:∀ y c,X.env.cells.lookup y = some c→c < s2.heap.objs.size:=fun y c e=>by
        obtain ⟨v,o,q,_⟩:=I2.cell y c e
        exact Heap.lt_size q
      have s0:X.s₀.heap.objs.size≤s2.heap.objs.size:=I2.sz
      have own:∀ a,s2.heap.objs.size≤a→H4 a = none→Own X pins H4 a:=fun a ha hn=>⟨hn,Ne.symm (Nat.ne_of_lt (Nat.lt_of_lt_of_le I2.lt ha)),Nat.le_trans s0 ha,fun y c e=>Nat.ne_of_lt (Nat.lt_of_lt_of_le (ltc y c e) ha),
        fun p hp=>Nat.ne_of_lt (Nat.lt_of_lt_of_le (ltp p hp) ha),I2.nofs ha⟩
      exact hfin _ _ s5 H4 ys its k m5 J1 (own _ (Nat.le_refl _) p2) (own _ hCle I5.free) hDC p1 vs4 z4 hn5 qn
    · refine thn (T.item (X.blk sc (clo sc.names X.env.cells []) G.objs.size (lcG X xs js) s2 H2 fp) rfl rfl rfl (hc _ _ _ _ _ _ _) i _ s4 _ H4 _ I4 (stat fr4 one) st4 go) fun r s5 ⟨u,hr,h5⟩=>?_
      subst hr
      refine wpAny_mono h5 (fun _ s5' ⟨v,H6,I6,r6,y6,st6,fr6⟩=>?_) fun _ _ z=>z
      have I7:=I6.pinned (stat fr6 one) (T.obj _ _ st6)
      have ndis:∀ p∈pinsAt fp s5'.heap,p.1≠s2.heap.objs.size:=fun p hp=>Nat.ne_of_lt (lt _ (of_pinsAt hp).1)
      have lenE:=vs4.length
      have back:∀ {its':List Value} {k':Nat} {H7:Hp} {s7:Shared} {ys':List V} {m':Nat} {o1:List (Option V)},o1.length = xs.length→Inv (X.blk sc (clo sc.names X.env.cells []) G.objs.size (lcG X xs js) s2 H2 fp) ((s2.heap.objs.size,lstObj its' k') :: pinsAt fp s5'.heap) (lcT σ js o1) H7 s7 →
          Vals ys' its'→ys'.length≤sizeLine→m' < n→W (i + 1) m' ys' H7→∃ m,m < n∧∃ i ys its k o0 H',o0.length = xs.length∧Inv (X.blk sc (clo sc.names X.env.cells []) G.objs.size (lcG X xs js) s2 H2 fp) [(s2.heap.objs.size,lstObj its k)] (lcT σ js o0) H' s7∧tn i s7.heap∧(∀ b∈fp,H' b = none)∧Vals ys its∧ys.length≤sizeLine∧W i m ys H':=by
        intro its' k' H7 s7 ys' m' o1 l1 J vs' z' hm w'
        refine ⟨m',hm,i + 1,ys',its',k',o1,H7,l1,J.pins_of fun p hp=>J.pin p (List.mem_append_right _ (by simp at hp; simp [hp])),?_,?_,vs',z',w'⟩
        · exact T.keep _ _ _ st6 fun b hb o e=>(J.pin (b,o) (List.mem_append_right _ (List.mem_cons_of_mem _ (mem_pinsAt hb e)))).1
        · intro b hb
          obtain ⟨o,e,_⟩:=T.obj _ _ st6 b hb
          exact (J.pin (b,o) (List.mem_append_right _ (List.mem_cons_of_mem _ (mem_pinsAt hb e)))).2.1
      refine wpAny_mono (lc_turnG (X:=X) (sc:=sc) (xs:=xs) (js:=js) (tg:=tg) (g:=g) (elt:=elt) (ifs:=ifs) (tt:=tt) (te:=te) (D:=s2.heap.objs.size) (its:=its) (n:=k) (pl:=pinsAt fp s5'.heap)
        (hg _ _ _ _ _) I7 r6 (ht _ _ _ _ _) (he _ _ _ _ _) (by omega) (Nat.le_refl _) hDC (fun y c e=>Nat.ne_of_lt (clLt y c e)) ndis (step v H6 y6 o0 lo0)) (fun _ s6 h6=>?_) fun _ _ z=>z
      refine wpAny_mono h6 (fun ok s7 h7=>?_) fun _ _ z=>z
      cases ok with
      | false =>
        rw [if_neg Bool.false_ne_true] at h7 ⊢
        obtain ⟨H7,o1,l1,⟨m',hm,w'⟩,J⟩:=h7
        exact back l1 J vs4 z4 hm w'
      | true =>
        rw [if_pos rfl] at h7 ⊢
        refine wpAny_mono h7 (fun y s8 h8=>?_) fun _ _ z=>z
        refine wpAny_mono h8 (fun _ s9 h9=>?_) fun _ _ z=>z
        obtain ⟨z,y',H9,o1,l1,⟨m',hm,w'⟩,rz,J⟩:=h9
        refine back l1 J (vs4.append (.cons rz .nil)) ?_ hm w'
        rw [List.length_append,List.length_singleton]
        omega
  exact codeAny_compStart_list (loop _ rfl) (T.self _ 0 _ _ _ (T.keep _ _ _ st2 fun b _ o e=>old b o e) (loop _ rfl))
end
section
variable {X:Cx} {sc osc:Scope} {x:Str} {js:List Nat} {elt iter:Expr} {px pos:Pos} {ifs:List Expr} {wi:TI} {tt:TT} {te:TE}
theorem lc_core {use:Option (Value→Sem Unit)} {QQ:Value→Shared→Prop} {Fin:List V→Hp→Prop} {pins:List (Addr × Obj)} {s:Shared} {σ:St} {H:Hp} (hosc:X.env.scope = osc) (L:LcOk osc sc x (js.map fun j=>X.N.getD j "")) {rd:Cx→Prop} (hc:∀ sc cl C N s H fp,rd (X.blk sc cl C N s H fp)) (hi:PIr rd X (.Name x px) iter wi) (hjs:∀ j∈js,j < X.N.length)
    (ht:∀ (cl:List (Str × Addr)) (C:Addr) (s₂:Shared) (H₂:Hp) (fp:List Addr) (pins:List (Addr × Obj)) (s':Shared) (σ':St) (H':Hp) (Q:Bool→Hp→Prop),Inv (X.blk sc cl C (lcN X x js) s₂ H₂ fp) pins σ' H' s'→tt σ' H' Q →
      wpAny (model X.prog X.w) X.A (lcTests ifs (compEnvC sc cl C X.env)) (TP (X.blk sc cl C (lcN X x js) s₂ H₂ fp) pins σ' Q) (fun _ _=>False) s')
    (he:∀ (cl:List (Str × Addr)) (C:Addr) (s₂:Shared) (H₂:Hp) (fp:List Addr),PE (X.blk sc cl C (lcN X x js) s₂ H₂ fp) elt te)
    (hs:∀ x,foldedSetIterable iter X.env x = pure x) (I:Inv X pins σ H s)
    (h:wi σ H fun J H1=>∃ W:Nat→Nat→List V→Hp→Prop,(∃ m,W 0 m [] H1)∧∀ i m ys H,W i m ys H→(J.stop i H∧Fin ys H) ∨
      (J.go i H∧ys.length < sizeLine∧∀ x H',J.yld i H x H'→tt (lcS σ js (some x)) H' fun b H2 =>
        if b = true then te (lcS σ js (some x)) H2 fun v H3=>∃ m',m' < m∧W (i + 1) m' (ys ++ [v]) H3 else ∃ m',m' < m∧W (i + 1) m' ys H2))
    (hfin:∀ (D C:Addr) (s5:Shared) (H5:Hp) (ys:List V) (its:List Value) (k:Nat) (m5:Str→Option Value),Inv X pins σ H5 s5→Own X pins H5 D→Own X pins H5 C→D≠C→s5.heap.get? D = some (lstObj its k)→Vals ys its→ys.length≤sizeLine→s5.heap.Ns C m5→Fin ys H5 →
      compPost (model X.prog X.w) X.A X.xe use QQ (.ref D) C (.ok .next) s5) :
    wpAny (model X.prog X.w) X.A (comprehension (.ListComp elt [⟨.Name x px,iter,ifs,0⟩] sc pos) sc X.env (firstIterPos [⟨.Name x px,iter,ifs,0⟩] pos) (newList []) false (eval iter X.env) use) QQ X.xe s:=by
  have e:(fun (J:It) (H1:Hp)=>∃ W:Nat→Nat→List V→Hp→Prop,(∃ m,W 0 m [] H1)∧∀ i m ys H,W i m ys H→(J.stop i H∧Fin ys H) ∨
      (J.go i H∧ys.length < sizeLine∧∀ x H',J.yld i H x H'→tt (lcS σ js (some x)) H' fun b H2 =>
        if b = true then te (lcS σ js (some x)) H2 fun v H3=>∃ m',m' < m∧W (i + 1) m' (ys ++ [v]) H3 else ∃ m',m' < m∧W (i + 1) m' ys H2)) =
      (fun (J:It) (H1:Hp)=>∃ W:Nat→Nat→List V→Hp→Prop,(∃ m,W 0 m [] H1)∧∀ i m ys H,W i m ys H→(J.stop i H∧Fin ys H) ∨
      (J.go i H∧ys.length < sizeLine∧∀ y H',J.yld i H y H'→∀ o0:List (Option V),o0.length = [x].length→gName 0 y (lcT σ js o0) H' fun σ2 H1=>∃ o1,σ2 = lcT σ js o1∧o1.length = [x].length∧tt σ2 H1 fun b H2 =>
        if b = true then te σ2 H2 fun v H3=>∃ m',m' < m∧W (i + 1) m' (ys ++ [v]) H3 else ∃ m',m' < m∧W (i + 1) m' ys H2)):=by
    funext J H1
    refine propext ⟨fun ⟨W,w0,w1⟩=>⟨W,w0,fun i m ys H hw=>?_⟩,fun ⟨W,w0,w1⟩=>⟨W,w0,fun i m ys H hw=>?_⟩⟩
    · rcases w1 i m ys H hw with a | ⟨a,b,c⟩
      · exact .inl a
      · refine .inr ⟨a,b,fun y H' hy o0 ho=>?_⟩
        match o0,ho with
        | [o],_=>exact ⟨[some y],rfl,rfl,c y H' hy⟩
    · rcases w1 i m ys H hw with a | ⟨a,b,c⟩
      · exact .inl a
      · refine .inr ⟨a,b,fun y H' hy=>?_⟩
        obtain ⟨o1,e1,e2,e3⟩:=c y H' hy [none] rfl
        exact e3
  rw [e] at h
  exact lc_coreG (xs:=[x]) (g:=gName 0) hosc ⟨L.kind,L.nocell,L.names,L.fr,L.fvs⟩ hc hi (fun cl C s₂ H₂ fp=>pg_name (X:=X.blk sc cl C (lcG X [x] js) s₂ H₂ fp) L.nd rfl (.inl (lookup_relabel_local L.hx)) (.inr (lookup_relabel_local L.hx))) hjs ht he hs I h hfin
theorem pe_lcTr (hosc:X.env.scope = osc) (L:LcOk osc sc x (js.map fun j=>X.N.getD j "")) {rd:Cx→Prop} (hc:∀ sc cl C N s H fp,rd (X.blk sc cl C N s H fp)) (hi:PIr rd X (.Name x px) iter wi) (hjs:∀ j∈js,j < X.N.length)
    (ht:∀ (cl:List (Str × Addr)) (C:Addr) (s₂:Shared) (H₂:Hp) (fp:List Addr) (pins:List (Addr × Obj)) (s':Shared) (σ':St) (H':Hp) (Q:Bool→Hp→Prop),Inv (X.blk sc cl C (lcN X x js) s₂ H₂ fp) pins σ' H' s'→tt σ' H' Q →
      wpAny (model X.prog X.w) X.A (lcTests ifs (compEnvC sc cl C X.env)) (TP (X.blk sc cl C (lcN X x js) s₂ H₂ fp) pins σ' Q) (fun _ _=>False) s')
    (he:∀ (cl:List (Str × Addr)) (C:Addr) (s₂:Shared) (H₂:Hp) (fp:List Addr),PE (X.blk sc cl C (lcN X x js) s₂ H₂ fp) elt te)
    (hs:∀ x,foldedSetIterable iter X.env x = pure x:=by intro _; rfl) :
    PE X (.ListComp elt [⟨.Name x px,iter,ifs,0⟩] sc pos) (tLC wi js tt te):=by
  intro pins s σ H Q I h
  rw [eval_ListComp]
  refine lc_core (use:=none) (Fin:=fun ys H=>∀ p,H p = none→Q (.ref p) (upd H p (.lst ys))) hosc L hc hi hjs ht he hs I h fun D C s5 H5 ys its k m5 J oD oC hDC p1 vs z hn fin=>?_
  refine ⟨m5,hn,fun h' hsb=>?_⟩
  have J2:Inv X pins σ H5 { s5 with heap:=h',toks:=s5.toks }:=J.turned (it:=C) (fun b o hb e=>hsb.extBut b o hb e) oC.free oC.loc (.inr oC.new) oC.cel oC.pin
  have p1':h'.get? D = some (lstObj its k):=hsb.extBut _ _ hDC p1
  have J3:Inv X pins σ (upd H5 D (.lst ys)) { s5 with heap:=h',toks:=s5.toks }:=J2.track oD.free oD.loc oD.new oD.cel oD.pin ⟨z,its,k,vs,p1'⟩
  exact ⟨.ref D,_,J3,rfl,fin D oD.free⟩
theorem pe_lcT (hosc:X.env.scope = osc) (L:LcOk osc sc x (js.map fun j=>X.N.getD j "")) (hc:X.calm = true) (hi:PI X (.Name x px) iter wi) (hjs:∀ j∈js,j < X.N.length)
    (ht:∀ (cl:List (Str × Addr)) (C:Addr) (s₂:Shared) (H₂:Hp) (fp:List Addr) (pins:List (Addr × Obj)) (s':Shared) (σ':St) (H':Hp) (Q:Bool→Hp→Prop),Inv (X.blk sc cl C (lcN X x js) s₂ H₂ fp) pins σ' H' s'→tt σ' H' Q →
      wpAny (model X.prog X.w) X.A (lcTests ifs (compEnvC sc cl C X.env)) (TP (X.blk sc cl C (lcN X x js) s₂ H₂ fp) pins σ' Q) (fun _ _=>False) s')
    (he:∀ (cl:List (Str × Addr)) (C:Addr) (s₂:Shared) (H₂:Hp) (fp:List Addr),PE (X.blk sc cl C (lcN X x js) s₂ H₂ fp) elt te)
    (hs:∀ x,foldedSetIterable iter X.env x = pure x:=by intro _; rfl) :
    PE X (.ListComp elt [⟨.Name x px,iter,ifs,0⟩] sc pos) (tLC wi js tt te) :=
  pe_lcTr hosc L (rd:=Calm) (fun _ _ _ _ _ _ _=>hc) hi hjs ht he hs
def sLC (i:Nat) (wi:TI) (js:List Nat) (tt:TT) (te:TE):TS:=fun D σ H=>tLC wi js tt te σ H fun v H1=>D.nx (σ.set i (some v)) H1
theorem ps_setLC {i:Nat} {y:Str} {py spos:Pos} (hN:X.N.Nodup) (hy:X.N[i]? = some y) (hl:Loc X.env.scope y) (hf:X.fn y = true∨X.env.scope.names.lookup y = some .local)
    (hosc:X.env.scope = osc) (L:LcOk osc sc x (js.map fun j=>X.N.getD j "")) (hc:X.calm = true) (hi:PI X (.Name x px) iter wi) (hjs:∀ j∈js,j < X.N.length)
    (ht:∀ (cl:List (Str × Addr)) (C:Addr) (s₂:Shared) (H₂:Hp) (fp:List Addr) (pins:List (Addr × Obj)) (s':Shared) (σ':St) (H':Hp) (Q:Bool→Hp→Prop),Inv (X.blk sc cl C (lcN X x js) s₂ H₂ fp) pins σ' H' s'→tt σ' H' Q →
      wpAny (model X.prog X.w) X.A (lcTests ifs (compEnvC sc cl C X.env)) (TP (X.blk sc cl C (lcN X x js) s₂ H₂ fp) pins σ' Q) (fun _ _=>False) s')
    (he:∀ (cl:List (Str × Addr)) (C:Addr) (s₂:Shared) (H₂:Hp) (fp:List Addr),PE (X.blk sc cl C (lcN X x js) s₂ H₂ fp) elt te)
    (hsw:swapsWith (.ListComp elt [⟨.Name x px,iter,ifs,0⟩] sc pos) (some (.Name y py)) spos.line X.env = pure true) (hs:∀ x,foldedSetIterable iter X.env x = pure x:=by intro _; rfl) :
    PS X (.Assign [.Name y py] (.ListComp elt [⟨.Name x px,iter,ifs,0⟩] sc pos) spos) (sLC i wi js tt te):=by
  intro pins s σ H D I h
  rw [exec_Assign_Name_used _ _ _ _ hsw]
  refine wpAny_bind (wpAny_standAt (wpAny_bind ?_))
  show wpAny _ _ (do let _ ← comprehension (.ListComp elt [⟨.Name x px,iter,ifs,0⟩] sc pos) sc X.env _ (newList []) false (eval iter X.env) (some (assign (.Name y py) X.env))) _ _ s
  have pg:=pg_name (X:=X) (i:=i) (x:=y) (pos:=py) hN hy hl hf
  refine wpAny_bind (wpAny_mono (lc_core (use:=some (assign (.Name y py) X.env)) (QQ:=fun _ z=>SP X pins D .next z) (Fin:=fun ys H=>∀ p,H p = none→D.nx (σ.set i (some (.ref p))) (upd H p (.lst ys))) hosc L (rd:=Calm) (fun _ _ _ _ _ _ _=>hc) hi hjs ht he hs I h fun A C s5 H5 ys its k m5 J oD oC hDC p1 vs z hn fin=>?_) (fun _ z hq=>wpAny_pure (wpAny_pure hq)) fun _ _ e=>e)
  have J1:Inv X pins σ (upd H5 A (.lst ys)) s5:=J.track oD.free oD.loc oD.new oD.cel oD.pin ⟨z,its,k,vs,p1⟩
  obtain ⟨oc,es,ep,hC,hd,hr⟩:=hn
  have nocell:∀ v,oc.data≠.cell v:=fun v q=>by rw [hd] at q; cases q
  have hCA:C≠A:=Ne.symm hDC
  have fC:(upd H5 A (.lst ys)) C = none:=by rw [upd_ne hCA]; exact oC.free
  have J2:Inv X (pins ++ [(C,oc)]) σ (upd H5 A (.lst ys)) s5:=J1.pins_of fun p hp=>(List.mem_append.mp hp).elim (fun q=>J1.pin p (List.mem_append_right _ q)) fun q=>by
    have e:p = (C,oc):=by simpa using q
    subst e
    exact ⟨hC,fC,oC.loc,oC.fs,nocell⟩
  refine wpAny_mono (pg _ s5 σ _ (.ref A) (.ref A) (fun σ6 H6=>σ6 = σ.set i (some (.ref A))∧H6 = upd H5 A (.lst ys)) J2 rfl ⟨rfl,rfl⟩) (fun _ s6 ⟨σ6,H6,I6,e1,e2⟩=>?_) fun _ _ e=>e
  subst e1 e2
  obtain ⟨c1,c2,_⟩:=I6.pin (C,oc) (List.mem_append_right _ (List.mem_append_right _ (by simp)))
  refine ⟨m5,⟨oc,es,ep,c1,hd,hr⟩,fun h' hsb=>?_⟩
  have J3:Inv X pins (σ.set i (some (.ref A))) (upd H5 A (.lst ys)) s6:=I6.pins_of fun p hp=>I6.pin p (List.mem_append_right _ (List.mem_append_left _ hp))
  have J4:Inv X pins (σ.set i (some (.ref A))) (upd H5 A (.lst ys)) { s6 with heap:=h',toks:=s6.toks }:=J3.turned (it:=C) (fun b o hb e=>hsb.extBut b o hb e) c2 oC.loc (.inr oC.new) oC.cel oC.pin
  exact ⟨_,_,J4,fin A oD.free⟩
end
end L2
namespace L2
open PySem PySem.Spec PyProof.Rows
section
variable {X:Cx}
def tYes:TT:=fun _ H Q=>Q true H
theorem pe_lc0 {sc osc:Scope} {x:Str} {js:List Nat} {elt iter:Expr} {px pos:Pos} {wi:TI} {te:TE} (hosc:X.env.scope = osc) (L:LcOk osc sc x (js.map fun j=>X.N.getD j "")) (hc:X.calm = true) (hi:PI X (.Name x px) iter wi) (hjs:∀ j∈js,j < X.N.length)
    (he:∀ (cl:List (Str × Addr)) (C:Addr) (s₂:Shared) (H₂:Hp) (fp:List Addr),PE (X.blk sc cl C (lcN X x js) s₂ H₂ fp) elt te)
    (hs:∀ x,foldedSetIterable iter X.env x = pure x:=by intro _; rfl) :
    PE X (.ListComp elt [⟨.Name x px,iter,[],0⟩] sc pos) (tLC wi js tYes te) :=
  pe_lcT hosc L hc hi hjs (fun cl C s₂ H₂ fp pins s' σ' H' Q I h=>wpAny_pure ⟨H',I,h⟩) he hs
theorem lc_list {K:PySem.W.Frag} {a:Addr} {xs:List V} {σ:St} {js:List Nat} {tt:TT} {te:TE} {H:Hp} {Qf:Addr→Hp→List V→Prop} (Pv:Nat→List V→Hp→Prop) (h0:Pv 0 [] H) (hz:xs.length≤sizeLine)
    (hl:∀ i ys H,i≤xs.length→Pv i ys H→SqL K H a xs∧ys.length≤i)
    (hs:∀ i x ys H,xs[i]? = some x→Pv i ys H→tt (lcS σ js (some x)) H fun b H2=>if b = true then te (lcS σ js (some x)) H2 fun v H3=>Pv (i + 1) (ys ++ [v]) H3 else Pv (i + 1) ys H2)
    (mt:∀ σ H Q Q',(∀ b H1,Q b H1→Q' b H1)→tt σ H Q→tt σ H Q') (me:∀ σ H Q Q',(∀ v H1,Q v H1→Q' v H1)→te σ H Q→te σ H Q')
    (hd:∀ ys H p,Pv xs.length ys H→H p = none→Qf p H ys) :
    ∃ W:Nat→Nat→List V→Hp→Prop,(∃ m,W 0 m [] H)∧∀ i m ys H,W i m ys H →
      ((Itl K a).stop i H∧∀ p,H p = none→Qf p H ys) ∨
      ((Itl K a).go i H∧ys.length < sizeLine∧∀ x H',(Itl K a).yld i H x H'→tt (lcS σ js (some x)) H' fun b H2 =>
        if b = true then te (lcS σ js (some x)) H2 fun v H3=>∃ m',m' < m∧W (i + 1) m' (ys ++ [v]) H3 else ∃ m',m' < m∧W (i + 1) m' ys H2):=by
  refine ⟨fun i m ys H=>m = xs.length - i∧i≤xs.length∧Pv i ys H,⟨xs.length,by simp,Nat.zero_le _,h0⟩,?_⟩
  rintro i m ys H ⟨rfl,hi,p⟩
  obtain ⟨q,hy⟩:=hl i ys H hi p
  by_cases hlt:i < xs.length
  · refine .inr ⟨⟨xs,xs[i],q,by simp [hlt]⟩,by omega,fun x H' y=>?_⟩
    obtain ⟨e,y⟩:=y
    subst e
    refine mt _ _ _ _ (fun b H2 h2=>?_) (hs i x ys _ (y xs q) p)
    cases b with
    | true =>
      rw [if_pos rfl] at h2 ⊢
      exact me _ _ _ _ (fun v H3 h3=>⟨_,by omega,rfl,hlt,h3⟩) h2
    | false =>
      rw [if_neg Bool.false_ne_true] at h2 ⊢
      exact ⟨_,by omega,rfl,hlt,h2⟩
  · have e:i = xs.length:=by omega
    subst e
    exact .inl ⟨⟨xs,q,Nat.le_refl _⟩,fun pp hp=>hd ys H pp p hp⟩
theorem lc_tup {K:PySem.W.Frag} {a:Addr} {xs:List V} {σ:St} {js:List Nat} {tt:TT} {te:TE} {H:Hp} {Qf:Addr→Hp→List V→Prop} (Pv:Nat→List V→Hp→Prop) (h0:Pv 0 [] H) (hz:xs.length≤sizeLine)
    (hl:∀ i ys H,i≤xs.length→Pv i ys H→SqT K H a xs∧ys.length≤i)
    (hs:∀ i x ys H,xs[i]? = some x→Pv i ys H→tt (lcS σ js (some x)) H fun b H2=>if b = true then te (lcS σ js (some x)) H2 fun v H3=>Pv (i + 1) (ys ++ [v]) H3 else Pv (i + 1) ys H2)
    (mt:∀ σ H Q Q',(∀ b H1,Q b H1→Q' b H1)→tt σ H Q→tt σ H Q') (me:∀ σ H Q Q',(∀ v H1,Q v H1→Q' v H1)→te σ H Q→te σ H Q')
    (hd:∀ ys H p,Pv xs.length ys H→H p = none→Qf p H ys) :
    ∃ W:Nat→Nat→List V→Hp→Prop,(∃ m,W 0 m [] H)∧∀ i m ys H,W i m ys H →
      ((Itt K a).stop i H∧∀ p,H p = none→Qf p H ys) ∨
      ((Itt K a).go i H∧ys.length < sizeLine∧∀ x H',(Itt K a).yld i H x H'→tt (lcS σ js (some x)) H' fun b H2 =>
        if b = true then te (lcS σ js (some x)) H2 fun v H3=>∃ m',m' < m∧W (i + 1) m' (ys ++ [v]) H3 else ∃ m',m' < m∧W (i + 1) m' ys H2):=by
  refine ⟨fun i m ys H=>m = xs.length - i∧i≤xs.length∧Pv i ys H,⟨xs.length,by simp,Nat.zero_le _,h0⟩,?_⟩
  rintro i m ys H ⟨rfl,hi,p⟩
  obtain ⟨q,hy⟩:=hl i ys H hi p
  by_cases hlt:i < xs.length
  · refine .inr ⟨⟨xs,xs[i],q,by simp [hlt]⟩,by omega,fun x H' y=>?_⟩
    obtain ⟨e,y⟩:=y
    subst e
    refine mt _ _ _ _ (fun b H2 h2=>?_) (hs i x ys _ (y xs q) p)
    cases b with
    | true =>
      rw [if_pos rfl] at h2 ⊢
      exact me _ _ _ _ (fun v H3 h3=>⟨_,by omega,rfl,hlt,h3⟩) h2
    | false =>
      rw [if_neg Bool.false_ne_true] at h2 ⊢
      exact ⟨_,by omega,rfl,hlt,h2⟩
  · have e:i = xs.length:=by omega
    subst e
    exact .inl ⟨⟨xs,q,Nat.le_refl _⟩,fun pp hp=>hd ys H pp p hp⟩
theorem idxOf_spec {x:V}:∀ {xs:List V} {us:List Value},Vals xs us→xs.all flatV = true→∀ {j:Nat},xs.findIdx? (fun y=>eqV y x) = some j →
    ∃ hj:j < us.length,eqU x us[j] = true∧∀ m (hm:m < us.length),m < j→eqU x us[m] = false
  | _,_,.nil,_,j,h=>by simp at h
  | y :: xs,u :: us,.cons r t,f,j,h=>by
    rw [List.all_cons,Bool.and_eq_true] at f
    rw [List.findIdx?_cons] at h
    by_cases hy:eqV y x = true
    · rw [if_pos hy] at h
      cases h
      refine ⟨by simp,?_,fun m hm hlt=>absurd hlt (Nat.not_lt_zero _)⟩
      show eqU x u = true
      rw [eqU_of r f.1]; exact hy
    · rw [if_neg hy] at h
      cases hq:xs.findIdx? (fun y=>eqV y x) with
      | none=>rw [hq] at h; cases h
      | some k =>
        rw [hq] at h
        have e:k + 1 = j:=Option.some.inj h
        subst e
        obtain ⟨hk,h1,h2⟩:=idxOf_spec t f.2 hq
        refine ⟨by rw [List.length_cons]; omega,h1,fun m hm hlt=>?_⟩
        cases m with
        | zero =>
          show eqU x u = false
          rw [eqU_of r f.1]; exact Bool.eq_false_iff.mpr hy
        | succ m=>exact h2 m (by rw [List.length_cons] at hm; omega) (by omega)
def rIndex (K:PySem.W.Frag):V→List V→Hp→VK→Prop:=fun x vs H Q=>∃ l xs y j,x = .ref l∧vs = [y]∧SqL K H l xs∧flatV y = true∧xs.all flatV = true∧xs.findIdx? (fun z=>eqV z y) = some j∧Q (.int (j:Nat)) H
theorem mt_index:MtM X "list.index" (rIndex X.K):=by
  intro pins s σ H x vs v us Q I rx rv h
  obtain ⟨l,xs,y,j,rfl,rfl,hq,fy,fs,hj,q⟩:=h
  cases rx
  obtain ⟨u,rfl,ru⟩:=rv.one
  obtain ⟨its,r,⟨o,n,e,hc,hd,hdat⟩,hz⟩:=I.list hq
  obtain ⟨cls,dd,dt,sl⟩:=o
  have hc':cls = .type "list" := hc
  have hdat':dt = .seq its.toArray n:=hdat
  subst hc' hdat'
  obtain ⟨h1,h2,h3⟩:=idxOf_spec r fs hj
  have hl:=r.length
  have hn:=line63
  refine call_meets F.slot_list_index ⟨_,e,rfl⟩ F.entry_list_index (F.args_list_index_2 _ _) (SeqAt.list_indexAt l its.toArray n dd sl u (eqU y) j (by simpa using h1) (by omega) (by simpa using h2) (fun m hm hlt=>by simpa using h3 m (by simpa using hm) hlt)) ⟨e,fun w hw=>mem_eqAt ru fy r fs w (by simpa using hw),?_⟩
  exact ⟨.int (j:Nat),H,I.tok _,⟨_,rfl⟩,q⟩
def rExtendT (K:PySem.W.Frag):V→List V→Hp→VK→Prop:=fun x vs H Q=>∃ l b xs zs,x = .ref l∧vs = [.ref b]∧H l = some (.lst xs)∧SqT K H b zs∧xs.length + zs.length≤sizeLine∧Q .non (upd H l (.lst (xs ++ zs)))
theorem extend_tuple_any (l:Addr) (its:Array Value) (n:Nat) (b:Addr) (its2:Array Value) (n2:Nat) (dd:Option Addr) (sl:Array (Option Value)) (h0:¬(!its.isEmpty && Builtin.List.listTooLong (its.size + its2.size)) = true) (h1:its.size≤sizeLine) (h2:its.size + its2.size≤sizeLine + 1) :
    Meets (Builtin.«list.extend» ⟨[.ref l,.ref b],[]⟩) (fun _ R s=>s.heap.get? l = some { cls:=.type "list", data:=.seq its n }∧s.heap.get? b = some { cls:=.type "tuple", dict:=dd,data:=.seq its2 n2,slots:=sl } ∧
      R (.ok (.ret Value.none)) { s with heap:=s.heap.update l (Obj.mapSeq fun x=>x ++ its2),toks:=s.toks }) :=
  .of_wp fun prog w A R s h=>by
    obtain ⟨hp,g,d,tk,os⟩:=s
    obtain ⟨hl,hb,h⟩:=h
    have g1:=AutoSeq1.idx_int
    have g2:=AutoSeq1.sub_tuple_tuple
    have g3:=AutoSeq1.sub_list_list
    have g4:=AutoSeq1.sub_tuple_list
    have g5:=AutoSeq1.sub_list_tuple
    have hz:(its ++ its2).size≤sizeLine + 1:=by rw [Array.size_append]; exact h2
    wp_walk using (wpAny_updateSeq hl rfl (hz:=h1) (_hz':=hz)),AutoSeq1.wpAny_loadPart' hl,AutoSeq1.wpAny_loadPart' hb
    exact ⟨_,rfl,h⟩
theorem mt_extendT:MtM X "list.extend" (rExtendT X.K):=by
  intro pins s σ H x vs v us Q I rx rv h
  obtain ⟨l,b,xs,zs,rfl,rfl,hH,hB,hz,q⟩:=h
  cases rx
  obtain ⟨u,rfl,ru⟩:=rv.one
  cases ru
  obtain ⟨z,its,n,r,hl,e⟩:=I.lstM hH
  obtain ⟨its2,r2,⟨o,e2,hc,n2,hd⟩,z2⟩:=I.tuple hB
  obtain ⟨cls,dd,dt,sl⟩:=o
  have hc':cls = .type "tuple" := hc
  have hd':dt = .seq its2.toArray n2:=hd
  subst hc' hd'
  have hl2:=r2.length
  have hsz:its.toArray.size + its2.toArray.size≤sizeLine:=by rw [List.size_toArray,List.size_toArray]; omega
  have hlong:¬ (!its.toArray.isEmpty && Builtin.List.listTooLong (its.toArray.size + its2.toArray.size)) = true:=by
    rw [notLongL hsz,Bool.and_false]
    exact Bool.false_ne_true
  refine call_meets F.slot_list_extend ⟨_,e,rfl⟩ F.entry_list_extend (F.args_list_extend_2 _ _)
    (extend_tuple_any l its.toArray n b its2.toArray n2 dd sl hlong (by rw [List.size_toArray]; omega) (by omega)) ⟨e,e2,?_⟩
  refine ⟨.non,_,I.lset (its':=its ++ its2) hH e (by simp) (r.append r2) ?_,rfl,q⟩
  rw [List.length_append]
  omega
theorem range_all_get (bs:List Bool):((List.range bs.length).all fun i=>(bs[i]?).getD true) = bs.all id:=by
  rw [Bool.eq_iff_iff,List.all_eq_true,List.all_eq_true]
  constructor
  · intro h b hb
    obtain ⟨i,hi,e⟩:=List.getElem_of_mem hb
    have q:=h i (List.mem_range.mpr hi)
    rw [List.getElem?_eq_getElem hi,Option.getD_some,e] at q
    exact q
  · intro h i hi
    have hi':=List.mem_range.mp hi
    rw [List.getElem?_eq_getElem hi',Option.getD_some]
    exact h _ (List.getElem_mem hi')
theorem call_all (hc:X.calm = true):CallR X (.builtin "all") (fun xs H Q=>∃ (p:Addr) (bs:List Bool),xs = [.ref p]∧SqL X.K H p (bs.map V.bl)∧Q (.bl (bs.all id)) H):=by
  intro pins s σ H xs us Q I r h
  obtain ⟨p,bs,rfl,hq,q⟩:=h
  obtain ⟨u,rfl,rx⟩:=vals1 r
  cases rx
  obtain ⟨its,r',pl,hz⟩:=I.list hq
  have hlen:bs.length = its.length:=by have:=r'.length; rw [List.length_map] at this; exact this
  have hlt:p < s.heap.objs.size:=by obtain ⟨_,e,_⟩:=pl.isList; exact Heap.lt_size e
  refine call_all_walk (wpAny_pyIter_list pl.isList ?_)
  refine ⟨s.heap.objs.size,[s.heap.objs.size,p],[s.heap.objs.size],its.toArray.size,_,_,fun i=>(bs[i]?).getD true,rfl,Walks.list (A:=X.A.in1) (I.ok.hd hc) _ p (Nat.ne_of_lt hlt) its.toArray,
    ⟨⟨_,Heap.get?_push_size _ rfl,rfl,rfl⟩,pl.isList.push _⟩,fun i v s' Q' E' hP hQ=>?_,fun h' tk hk=>?_⟩
  · have hP':its[i]? = some v:=by simpa using hP
    have hi:i < bs.length:=by
      have:=(List.getElem?_eq_some_iff.mp hP').1
      omega
    obtain ⟨w,hw,rw'⟩:=r'.get (i:=i) (x:=.bl bs[i]) (by rw [List.getElem?_map,List.getElem?_eq_getElem hi]; rfl)
    rw [hP'] at hw
    cases hw
    cases rw'
    simp only [List.getElem?_eq_getElem hi,Option.getD_some] at hQ
    exact wpAny_truthy_bool hQ
  · have kp:∀ b o,s.heap.get? b = some o→h'.get? b = some o:=fun b o e=>hk b o (fun hm=>by
      rw [List.mem_singleton.mp hm] at e
      exact Nat.lt_irrefl _ (Heap.lt_size e)) (Heap.get?_push_of_some _ e)
    refine ⟨.bl _,H,I.kept kp,rfl,?_⟩
    rw [List.size_toArray,← hlen,range_all_get]
    exact q
theorem call_isinst:CallR X (.builtin "isinstance") (fun xs H Q=>∃ x T t b,xs = [x,.ty T]∧TyOf X.K H x t∧PySem.W.kitOne X.K t (.type T) = some b∧Q (.bl b) H):=by
  intro pins s σ H xs us Q I r h
  obtain ⟨x,T,t,b,rfl,ty,e,q⟩:=h
  obtain ⟨u,w',rfl,rx,ry⟩:=vals2 r
  cases ry
  exact isinst_ok I rx ty e fun tk=>⟨.bl b,H,I.tok _,rfl,q⟩
end
end L2
namespace L2
open PySem PySem.Spec PyProof.Rows
def met (acc:List Str) (x:Str):List Str:=if acc.any (· == x) then acc else acc ++ [x]
def dd (xs:List Str):List Str:=xs.foldl met []
theorem dd_snoc (xs:List Str) (x:Str):dd (xs ++ [x]) = met (dd xs) x:=by
  unfold dd
  rw [List.foldl_append]
  rfl
theorem met_any (acc:List Str) (x k:Str):(met acc x).any (· == k) = (acc.any (· == k) || decide (k = x)):=by
  unfold met
  by_cases h:acc.any (· == x) = true
  · rw [if_pos h]
    by_cases e:k = x
    · subst e; rw [h]; simp
    · simp [e]
  · rw [if_neg h,List.any_append]
    by_cases e:k = x
    · subst e; simp
    · have hb:(x == k) = false:=by simpa [beq_iff_eq] using (fun z:x = k=>e z.symm)
      simp [hb,e]
theorem met_len (acc:List Str) (x:Str):(met acc x).length = if acc.any (· == x) = true then acc.length else acc.length + 1:=by
  unfold met
  split <;> simp
theorem dd_le (xs:List Str):(dd xs).length≤xs.length:=by
  suffices h:∀ acc:List Str,(xs.foldl met acc).length≤acc.length + xs.length by have:=h []; unfold dd; simpa using this
  induction xs with
  | nil=>intro acc; simp
  | cons x r ih =>
    intro acc
    rw [List.foldl_cons]
    have h1:=ih (met acc x)
    have h2:=met_len acc x
    rw [List.length_cons]
    split at h2 <;> omega
theorem dd_any (xs:List Str) (k:Str):(dd xs).any (· == k) = xs.any (· == k):=by
  suffices h:∀ acc:List Str,(xs.foldl met acc).any (· == k) = (acc.any (· == k) || xs.any (· == k)) by have:=h []; unfold dd; simpa using this
  induction xs with
  | nil=>intro acc; simp
  | cons x r ih =>
    intro acc
    rw [List.foldl_cons,ih,met_any,List.any_cons,Bool.or_assoc]
    congr 2
    by_cases e:k = x
    · subst e; simp
    · have e':¬ x = k:=fun z=>e z.symm
      simp [e,e']
theorem dd_nodup {xs:List Str} (h:xs.Nodup):(dd xs).length = xs.length:=by
  suffices g:∀ acc:List Str,(∀ x∈xs,acc.any (· == x) = false)→(xs.foldl met acc).length = acc.length + xs.length by have:=g [] (fun _ _=>rfl); unfold dd; simpa using this
  induction xs with
  | nil=>intro acc _; simp
  | cons x r ih =>
    intro acc ha
    obtain ⟨hx,hr⟩:=List.nodup_cons.mp h
    rw [List.foldl_cons,ih hr (met acc x) (fun y hy=>?_),met_len,ha x List.mem_cons_self]
    · simp; omega
    · rw [met_any,ha y (List.mem_cons_of_mem _ hy)]
      have:y≠x:=fun e=>hx (e ▸ hy)
      simp [this]
theorem dd_dup {xs:List Str} (h:¬ xs.Nodup):(dd xs).length < xs.length:=by
  suffices g:∀ acc:List Str,¬ xs.Nodup→(xs.foldl met acc).length < acc.length + xs.length by have:=g [] h; unfold dd; simpa using this
  clear h
  have le:∀ (ys acc:List Str),(ys.foldl met acc).length≤acc.length + ys.length:=fun ys=>by
    induction ys with
    | nil=>intro acc; simp
    | cons x r ih =>
      intro acc
      rw [List.foldl_cons]
      have h1:=ih (met acc x)
      have h2:=met_len acc x
      rw [List.length_cons]
      split at h2 <;> omega
  have mem:∀ (ys acc:List Str) (x:Str),x∈ys→acc.any (· == x) = true→(ys.foldl met acc).length < acc.length + ys.length:=fun ys=>by
    induction ys with
    | nil=>intro acc x hx _; cases hx
    | cons y r ih =>
      intro acc x hx ha
      rw [List.foldl_cons,List.length_cons]
      rcases List.mem_cons.mp hx with e | hx
      · subst e
        have h1:=le r (met acc x)
        have h2:=met_len acc x
        rw [if_pos ha] at h2
        omega
      · have h1:=ih (met acc y) x hx (by rw [met_any,ha]; rfl)
        have h2:=met_len acc y
        split at h2 <;> omega
  induction xs with
  | nil=>intro acc h; exact absurd List.nodup_nil h
  | cons x r ih =>
    intro acc h
    rw [List.foldl_cons,List.length_cons]
    by_cases hx:x∈r
    · have h1:=mem r (met acc x) x hx (by rw [met_any]; simp)
      have h2:=met_len acc x
      split at h2 <;> omega
    · have h1:=ih (met acc x) (fun hr=>h (List.nodup_cons.mpr ⟨hx,hr⟩))
      have h2:=met_len acc x
      split at h2 <;> omega
abbrev setO (led:Bool):Obj:={ cls:=.type "set", dict:=none,data:=.set #[] 0 (.fresh 0 0 led) }
section
variable {P:Program} {w:World} {A:Around} {R:Result→Shared→Prop} {E:Value→Shared→Prop} {s:Shared}
theorem lay_strs {I:Addr} {fp wr:List Addr} {G:Array GenState→Array GenState→Prop} {n:Nat} {Pv:Nat→Value→Prop} {St:Nat→Shared→Prop} (W:WalksS P w A.in1 I fp wr G n Pv St) (S:Addr) (hS:S ∉ fp) (xs:List Str) (hn:xs.length = n)
    (hv:∀ i v,Pv i v→∃ t,v = .str (xs.getD i "") t) (hb:n + 1 < scanBound) :
    ∀ (k i:Nat) (z:Shared),n - i = k→i≤n→St i z→z.heap.SetOf (strKind P w) S (fun q=>(dd (xs.take i)).any (· == q)) (dd (xs.take i)).length →
      (∀ z',Moved (S :: wr) G z z'→z'.heap.SetOf (strKind P w) S (fun q=>(dd xs).any (· == q)) (dd xs).length→R (.ok (.ret .none)) z') →
      codeAny (model P w) A (.builtin "set.update.loop" ⟨[.ref S,.ref I],[]⟩) R z:=by
  have notw:S ∉ wr:=fun h=>hS (W.sub _ h)
  have more:∀ b∈wr,b∈S :: wr:=fun b h=>List.mem_cons_of_mem _ h
  intro k
  induction k with
  | zero =>
    intro i z hk hi st hset fin
    have ei:i = n:=by omega
    subst ei
    refine codeAny_builtin PyProof.Rows.F.entry_set_update_loop ?_
    rw [Around.under_plainId PyProof.Rows.F.plain_set_update_loop _]
    show wpAny _ A.in1 (pyNext (.ref I) >>= _) _ _ z
    refine wpAny_bind (W.done z _ _ st fun z' mv=>?_)
    show wpAny _ A.in1 (ret Value.none) _ _ z'
    refine wpAny_pure (fin z' (mv.mono more) ?_)
    rw [← hn,List.take_length] at hset
    obtain ⟨o,es,ep,t,ho,more'⟩:=hset
    exact ⟨o,es,ep,t,mv.heap S _ notw ho,more'⟩
  | succ k ih =>
    intro i z hk hi st hset fin
    have il:i < n:=by omega
    refine codeAny_builtin PyProof.Rows.F.entry_set_update_loop ?_
    rw [Around.under_plainId PyProof.Rows.F.plain_set_update_loop _]
    show wpAny _ A.in1 (pyNext (.ref I) >>= _) _ _ z
    refine wpAny_bind (W.item i z _ _ il st fun v z' pv st' mv=>?_)
    obtain ⟨t,rfl⟩:=hv i v pv
    have hset':z'.heap.SetOf (strKind P w) S (fun q=>(dd (xs.take i)).any (· == q)) (dd (xs.take i)).length:=by
      obtain ⟨o,es,ep,tb,ho,more'⟩:=hset
      exact ⟨o,es,ep,tb,mv.heap S _ notw ho,more'⟩
    show wpAny _ A.in1 (holding [Value.str (xs.getD i "") t] (setAdd S (.str (xs.getD i "") t)) >>= _) _ _ z'
    refine wpAny_bind (wpAny_holding ?_)
    unfold setAdd
    refine wpAny_holding ?_
    refine wpAny_bind ((strKind P w).pyHash (k:=xs.getD i "") (strKind_is _ _ _ _) ?_)
    have hroom:(dd (xs.take i)).length + 1 < scanBound:=by
      have:=dd_le (xs.take i)
      rw [List.length_take] at this
      omega
    have et:xs.take (i + 1) = xs.take i ++ [xs.getD i ""]:=by
      rw [List.take_succ,List.getD_eq_getElem?_getD,List.getElem?_eq_getElem (by omega)]
      rfl
    refine wpAny_setAddHashed_of (knd:=strKind P w) (s:={ z' with toks:=z'.toks + 1 }) (strKind_is _ _ _ _) rfl hset' hroom fun h' sb s2=>?_
    have hset2:h'.SetOf (strKind P w) S (fun q=>(dd (xs.take (i + 1))).any (· == q)) (dd (xs.take (i + 1))).length :=
      SetOf_congr s2 (fun q=>by rw [et,dd_snoc,met_any]) (by rw [et,dd_snoc,met_len])
    refine wpAny_pure ⟨plainId_quiet PyProof.Rows.F.plain_set_update_loop _,ih (i + 1) _ (by omega) il (W.frame _ z' _ _ st' (Nat.le_succ _) fun b hb' o e=>?_) hset2 fun z'' mv2 s3=>?_⟩
    · rw [sb.2 b (fun h:b = S=>hS (by rw [← h]; exact hb'))]; exact e
    · refine fin z'' (Moved.trans W.gtrans ((mv.mono more).then_heap (Nat.le_succ _) fun b o hb' e=>?_) mv2) s3
      rw [sb.2 b (fun h:b = S=>hb' (by rw [h]; exact List.mem_cons_self))]; exact e
theorem strs_at {xs:List Str}:∀ {us:List Value},Vals (xs.map V.str) us→∀ (i:Nat) (v:Value),us[i]? = some v→∃ t,v = .str (xs.getD i "") t:=by
  intro us r i v h
  have hl:=r.length
  rw [List.length_map] at hl
  have hi:i < xs.length:=by have:=(List.getElem?_eq_some_iff.mp h).1; omega
  obtain ⟨u,hu,t,e⟩:=r.get (i:=i) (x:=.str xs[i]) (by rw [List.getElem?_map,List.getElem?_eq_getElem hi]; rfl)
  rw [h] at hu
  cases hu
  refine ⟨t,?_⟩
  rw [e,List.getD_eq_getElem?_getD,List.getElem?_eq_getElem hi]
  rfl
set_option maxHeartbeats 8000000 in
theorem set_strs {l:Addr} {us:List Value} {xs:List Str} {Q:Value→Shared→Prop} (hh:A.handled = none) (hl:s.heap.IsList l us.toArray) (r:Vals (xs.map V.str) us) (hb:xs.length + 1 < scanBound)
    (h:∀ (h':Heap) (tk:Nat),h'.SetOf (strKind P w) s.heap.objs.size (fun q=>(dd xs).any (· == q)) (dd xs).length→(∀ b o,s.heap.get? b = some o→h'.get? b = some o)→Q (.ref s.heap.objs.size) { s with heap:=h',toks:=tk }) :
    wpAny (model P w) A (call (.type "set") [.ref l]) Q E s:=by
  have hlen:xs.length = us.toArray.size:=by have:=r.length; rw [List.length_map] at this; simpa using this
  obtain ⟨cc,tl,hmro⟩:=F.called_set.mro
  have made:=F.called_set.made
  have sub:=F.called_set.sub
  refine wpAny_call (codeAny_of_tree ?_)
  show wpAny _ _ (callAny (.type "set") _) _ _ _
  refine wpAny_pure ⟨Code.quiet_builtin _ (by decide +kernel),codeAny_builtin F.entry_type_call ?_⟩
  rw [Around.under_plain (weight_type_call_type "set" [.ref l] []) rfl]
  have a1:=F.called_set.notType
  have a2:=F.called_set.canCreate
  have a3:=F.typeCall_set_1 (.ref l)
  repeat (any_goals (first | assumption | wp_step))
  refine codeAny_mono (code_set_new_1 (.ref l) (E:=E) (Q₁:=fun ob z=>∃ led:Bool,ob = .ref s.heap.objs.size∧z = { s with heap:=s.heap.push { cls:=.type "set", dict:=none,data:=.set #[] 0 (.fresh 0 0 led) } }) fun led=>⟨led,rfl,rfl⟩) fun res z hres=>?_
  cases res with
  | error e=>exact hres
  | ok fl =>
    cases fl with
    | ret ob =>
      obtain ⟨led,rfl,rfl⟩:=hres
      have gS:(s.heap.push (setO led)).get? s.heap.objs.size = some (setO led):=Heap.get?_push_size _ rfl
      have tS:Shared.TypeIs { s with heap:=s.heap.push (setO led) } (.ref s.heap.objs.size) "set" := ⟨_,gS,rfl⟩
      have b1:=F.called_set.init.lookup
      have b2:=F.called_set.init.bind (.ref s.heap.objs.size)
      repeat (any_goals (first | assumption | wp_step))
      refine codeAny_mono (codeAny_call_builtin (R:=wants (fun v z=>v = .none∧∃ h' tk,z = { s with heap:=h',toks:=tk }∧h'.SetOf (strKind P w) s.heap.objs.size (fun q=>(dd xs).any (· == q)) (dd xs).length∧(∀ b o,s.heap.get? b = some o→h'.get? b = some o)) E)
        F.called_set.init.plain F.entry_set_init (check_set_init_1 tS ?_)) fun res2 z2 hres2=>?_
      · obtain ⟨ol,gl,cl,nl,dl⟩:=hl
        obtain ⟨ocls,odict,odata,oslots⟩:=ol
        have cl':ocls = .type "list" := cl
        have dl':odata = .seq us.toArray nl:=dl
        subst cl' dl'
        have gl':(s.heap.push (setO led)).get? l = some { cls:=.type "list", dict:=odict,data:=.seq us.toArray nl,slots:=oslots }:=Heap.get?_push_of_some _ gl
        have c1:=F.sub_list_set
        have c2:=F.sub_list_frozenset
        have c3:(Value.type "list" == Value.type "dict") = false:=by decide
        have isl:(s.heap.push (setO led)).IsList l us.toArray:=⟨_,gl',rfl,nl,rfl⟩
        unfold Builtin.«set.__init__» noKeywords Builtin.Frozenset.updateFrom
        generalize hit:pyIter = itf
        wp_walk
        subst hit
        refine wpAny_pyIter_list isl ?_
        refine wpAny_bind (wpAny_runValue ?_)
        have ltl:l < s.heap.objs.size:=Heap.lt_size gl
        have hd3:A.in1.in1.in1.handled = none:=by simp [hh]
        have sz1:(s.heap.push (setO led)).objs.size = s.heap.objs.size + 1:=Heap.size_push ..
        have nel:l≠(s.heap.push (setO led)).objs.size:=by rw [sz1]; exact Nat.ne_of_lt (Nat.lt_succ_of_lt ltl)
        have nin:s.heap.objs.size ∉ [(s.heap.push (setO led)).objs.size,l]:=by
          rw [sz1]
          simp only [List.mem_cons,List.not_mem_nil,or_false,not_or]
          exact ⟨Nat.ne_of_lt (Nat.lt_succ_self _),Nat.ne_of_gt ltl⟩
        refine lay_strs ((Walks.list hd3 _ l nel us.toArray).toS) s.heap.objs.size nin xs hlen (fun i v hv=>strs_at r i v (by simpa using hv)) (by rw [← hlen]; exact hb) (us.toArray.size - 0) 0 _ (by omega) (Nat.zero_le _)
          ⟨⟨_,Heap.get?_push_size _ rfl,rfl,rfl⟩,isl.push _⟩ ?s0 ?fin
        case s0 =>
          have gg:((s.heap.push (setO led)).push { cls:=.type "list_iterator", data:=.fields #[.ref l,.int 0 0] }).get? s.heap.objs.size = some (setO led):=Heap.get?_push_of_some _ gS
          exact SetOf_congr ((setObjOf_fresh (knd:=strKind P w) led).setOf gg (by unfold scanBound; omega)) (fun _=>rfl) rfl
        case fin =>
          intro z mv sz
          obtain ⟨h',g',d',tk',os'⟩:=z
          have e1:g' = s.gens:=mv.gens
          have e2:d' = s.drawn:=mv.drawn
          have e3:os' = s.os:=mv.os
          subst e1 e2 e3
          show wpAny _ _ _ _ _ _
          refine wpAny_pure ?_
          show wpAny _ _ (ret Value.none) _ _ _
          refine wpAny_pure ⟨rfl,h',tk',rfl,sz,fun b o e=>?_⟩
          have lb:=Heap.lt_size e
          have n1:b≠s.heap.objs.size:=Nat.ne_of_lt lb
          have n2:b≠(s.heap.push (setO led)).objs.size:=by rw [sz1]; exact Nat.ne_of_lt (Nat.lt_succ_of_lt lb)
          exact mv.heap b o (by simp only [List.mem_cons,List.not_mem_nil,or_false,not_or]; exact ⟨n1,n2⟩) (Heap.get?_push_of_some _ (Heap.get?_push_of_some _ e))
      · cases res2 with
        | error e=>exact hres2
        | ok fl2 =>
          cases fl2 with
          | ret v =>
            obtain ⟨rfl,h',tk,rfl,sS,kk⟩:=hres2
            repeat (any_goals (first | assumption | wp_step))
            exact h _ _ sS kk
          | _=>exact hres2.elim
    | _=>exact hres.elim
end
end L2
namespace L2
open PySem PySem.Spec PyProof.Rows
section
variable {X:Cx}
def SetN (P:Program) (w:World) (a:Addr) (n:Nat):HO:=.ext fun h=>∃ S,h.SetOf (strKind P w) a S n
theorem call_set (hc:X.calm = true):CallR X (.type "set") (fun xs H Q=>∃ (p:Addr) (ts:List Str),xs = [.ref p]∧SqL X.K H p (ts.map V.str)∧ts.length≤100∧∀ q,H q = none→Q (.ref q) (upd H q (SetN X.prog X.w q (dd ts).length))):=by
  intro pins s σ H xs us Q I r h
  obtain ⟨p,ts,rfl,hq,h100,q⟩:=h
  obtain ⟨u,rfl,rx⟩:=vals1 r
  cases rx
  obtain ⟨its,r',pl,hz⟩:=I.list hq
  refine set_strs (I.ok.hd hc) pl.isList r' (Nat.lt_of_le_of_lt (Nat.add_le_add_right h100 1) (by decide)) fun h' tk hS hk=>?_
  refine ⟨.ref s.heap.objs.size,_,I.laid hk (Nat.le_refl _) (o:=SetN X.prog X.w s.heap.objs.size (dd ts).length) ?_,rfl,q _ (I.hok.fresh (Nat.le_refl _))⟩
  refine ⟨⟨_,hS⟩,?_,?_⟩
  · obtain ⟨o,es,ep,t,ho,_⟩:=hS
    exact ⟨o,ho⟩
  · rintro h1 h2 ⟨S,o,es,ep,t,ho,rest⟩ k
    exact ⟨S,o,es,ep,t,k o ho,rest⟩
theorem call_len_set':CallR X (.builtin "len") (fun xs H Q=>∃ (p:Addr) (n:Nat),xs = [.ref p]∧H p = some (SetN X.prog X.w p n)∧Q (.int n) H):=by
  intro pins s σ H xs us Q I r h
  obtain ⟨p,n,rfl,hp,q⟩:=h
  obtain ⟨u,rfl,rx⟩:=vals1 r
  cases rx
  obtain ⟨⟨S,o,es,ep,t,ho,hex,hd,_,_,hb,hf,hn⟩,_⟩:=I.hok p _ hp
  have h63:(es.size:Int) < 2 ^ 63:=by
    have h1:scanBound < 2 ^ 63:=by decide
    omega
  refine call_len_set ho hex hd hf h63 ⟨.int n,H,I.tok _,⟨s.toks + 1,?_⟩,q⟩
  rw [hn]
def DicK (K:PySem.W.Frag) (P:Program) (w:World) (a:Addr) (kvs:List (Str × Value)):Prop:=(a == sysModules) = false∧∃ o,K.lookup a = some o∧o.IsDictOf (strKind P w) kvs
theorem ix_dicK {a:Addr} {kvs:List (Str × Value)} (hd:DicK X.K X.prog X.w a kvs):IxR X (fun x y H Q=>∃ k u v,x = .ref a∧y = .str k∧valueAt kvs k = some u∧RelV v u∧Q v H):=by
  intro value slice pins s σ H x y v u Q I rx ry h hs
  obtain ⟨k,z,vv,rfl,rfl,hv,rv,q⟩:=h
  cases rx
  obtain ⟨t,rfl⟩:=ry
  obtain ⟨_,o,hk,hdd⟩:=hd
  have D:s.heap.DictOf (strKind X.prog X.w) a kvs:=Heap.dictOf_iff.mpr ⟨o,I.kIn a o hk,hdd⟩
  exact tail_any D.typeIs slot_dict_getitem.lookup (wpAny_getItem_of (strKind_is _ _ k t) D.mapOf hv ⟨vv,H,I.tok _,rv,q⟩) hs
theorem op_notIn_dicK {a:Addr} {kvs:List (Str × Value)} (hd:DicK X.K X.prog X.w a kvs):OpR X (compareOp .NotIn) (fun x y H Q=>∃ k,x = .str k∧y = .ref a∧Q (.bl (!(valueAt kvs k).isSome)) H):=by
  intro pins s σ H x y v u Q I rx ry h
  obtain ⟨k,rfl,rfl,q⟩:=h
  cases ry
  obtain ⟨t,rfl⟩:=rx
  obtain ⟨hs,o,hk,hdd⟩:=hd
  have D:s.heap.DictOf (strKind X.prog X.w) a kvs:=Heap.dictOf_iff.mpr ⟨o,I.kIn a o hk,hdd⟩
  exact wpAny_notIn_of (strKind_is _ _ k t) hs D.mapOf ⟨.bl _,H,I.tok _,rfl,q⟩
theorem Inv.turnedL {pins:List (Addr × Obj)} {σ:St} {H:Hp} {s:Shared} {h':Heap} {t':Nat} {fp:List Addr} (I:Inv X pins σ H s) (k:∀ b o,b ∉ fp→s.heap.get? b = some o→h'.get? b = some o) (ex:∀ b∈fp,∃ o,h'.get? b = some o) (hf:∀ b∈fp,FpOk X pins H b) :
    Inv X pins σ H { s with heap:=h',toks:=t' }:=by
  have nit:∀ b u,H b = some u→b ∉ fp:=fun b u e z=>by rw [(hf b z).1] at e; cases e
  refine I.step (g':=s.gens) (d':=s.drawn) (ch:=fp) (fun b hb=>⟨(hf b hb).2.2.2.1,(hf b hb).2.1,(hf b hb).2.2.2.2.1,(hf b hb).2.2.2.2.2⟩) (fun b o _ _ hc e _=>k b o hc e) (fun b o _ _ hc e _=>⟨o.slots,k b o hc e⟩) (fun _ _ _ _ n=>n)
    (fun b o hc e=>⟨o,k b o hc e⟩) (fun _ _ e=>e) (fun _ _ _ e=>e) (fun b ps e=>⟨#[],by rw [e]; simp⟩) (fun m hm=>?_) (fun b u e=>?_) I.bare
  · obtain ⟨o,es,ep,ho,r⟩:=hm
    exact ⟨o,es,ep,k _ o (fun z=>(hf _ z).2.1 rfl) ho,r⟩
  · refine (I.hok b u e).stay (fun c v hc q=>k c v ?_ q) (fun _ q=>q) fun _ _ q=>q
    rcases hc with z | z
    · rw [z]; exact nit b u e
    · exact nit c _ z
def Ite (K:PySem.W.Frag) (a:Addr):It :=
  ⟨fun i H=>∃ xs x,SqL K H a xs∧xs[i]? = some x,fun i H x H'=>∃ p y,(∀ xs,SqL K H a xs→xs[i]? = some y)∧x = .ref p∧H p = none∧H' = upd H p (.tup [.int (i:Nat),y]),fun i H=>∃ xs,SqL K H a xs∧xs.length≤i⟩
theorem turn_enum {P:Program} {w:World} {K:PySem.W.Frag} {els:List Expr} {x1} {pt:Pos} (a e it:Addr) (hne:e≠it):Turn P w K (.Tuple els x1 pt) (Ite K a) [e,it] e (fun i h=>(∃ old,IsEnum h e it (i:Nat) old)∧h.IsListIter it a i) where
  mem:=by simp
  obj:=fun i h st b hb=>by
    rcases List.mem_cons.mp hb with z | z
    · obtain ⟨⟨old,q⟩,_⟩:=st
      rw [z]
      exact ⟨_,q,fun v hv=>by cases hv⟩
    · have z':b = it:=by simpa using z
      obtain ⟨_,o,q,c,d⟩:=st
      rw [z']
      exact ⟨o,q,fun v hv=>by rw [d] at hv; cases hv⟩
  keep:=fun i h h' st k=>by
    obtain ⟨⟨old,q⟩,q2⟩:=st
    exact ⟨⟨old,k e (by simp) _ q⟩,q2.at fun o z=>k it (by simp) o z⟩
  item:=by
    intro X hP hw hK hc i pins s σ H E I hf st hg
    subst hP hw hK
    obtain ⟨xs,x,hq,hx⟩:=hg
    obtain ⟨⟨old,he⟩,hit⟩:=st
    obtain ⟨its,rv,pl,hz⟩:=I.list hq
    obtain ⟨u,hu,ru⟩:=rv.get hx
    refine wpAny_pyNext_enum_item he hit pl.isList (x:=u) (by simpa using hu) hne fun h1 out hit1 tup sz k1=>?_
    refine ⟨.ref s.heap.objs.size,rfl,wpAny_letOwnedTupleGo_enum out fun h2 he2 sb=>?_⟩
    have lte:=Heap.lt_size he
    have k2:∀ b o,b ∉ [e,it]→s.heap.get? b = some o→h2.get? b = some o:=fun b o hb q=>by
      have hb':b≠e∧b≠it:=by simpa using hb
      exact (sb.2 b hb'.1).trans (k1 b o hb'.1 hb'.2 q)
    have hit2:h2.IsListIter it a (i + 1):=hit1.at fun o z=>(sb.2 it (Ne.symm hne)).trans z
    have J1:Inv X pins σ H { s with heap:=h2,toks:=s.toks + 1 }:=I.turnedL (fp:=[e,it]) k2 (fun b hb=>by
      rcases List.mem_cons.mp hb with z | z
      · rw [z]; exact ⟨_,he2⟩
      · have z':b = it:=by simpa using z
        obtain ⟨o,q,_⟩:=hit2
        rw [z']; exact ⟨o,q⟩) hf
    have tup2:h2.get? s.heap.objs.size = some { cls:=.type "tuple", data:=.seq #[.int i s.toks,u] }:=(sb.2 _ (Nat.ne_of_gt lte)).trans tup
    have ltc:∀ y c,X.env.cells.lookup y = some c→c≠s.heap.objs.size:=fun y c q=>by
      obtain ⟨v,o,z,_⟩:=I.cell y c q
      exact Nat.ne_of_lt (Heap.lt_size z)
    have ltp:∀ p∈X.pn ++ pins,p.1≠s.heap.objs.size:=fun p hp=>Nat.ne_of_lt (Heap.lt_size (I.pin p hp).1)
    have J2:=J1.track (a:=s.heap.objs.size) (o:=.tup [.int (i:Nat),x]) I.fresh (Ne.symm (Nat.ne_of_lt I.lt)) I.sz ltc ltp ⟨by show 2≤sizeLine; decide,[.int i s.toks,u],.cons ⟨_,rfl⟩ (.cons ru .nil),⟨_,tup2,rfl,_,rfl⟩⟩
    refine ⟨.ref s.heap.objs.size,_,J2,rfl,⟨_,x,fun ys hy=>by rw [I.list_inj hy hq]; exact hx,rfl,I.fresh,rfl⟩,⟨⟨u,?_⟩,hit2⟩,fun b hb=>?_⟩
    · have:=he2
      simpa using this
    · have lb:b < s.heap.objs.size:=by
        rcases List.mem_cons.mp hb with z | z
        · rw [z]; exact lte
        · have z':b = it:=by simpa using z
          obtain ⟨o,q,_⟩:=hit
          rw [z']; exact Heap.lt_size q
      rw [upd_ne (Nat.ne_of_lt lb)]
      exact (hf b hb).1
  done:=by
    intro X hP hw hK hc i pins s σ H E I hf st hg
    subst hP hw hK
    obtain ⟨xs,hq,hx⟩:=hg
    obtain ⟨⟨old,he⟩,hit⟩:=st
    obtain ⟨its,rv,pl,hz⟩:=I.list hq
    have hl:=rv.length
    obtain ⟨f0,f1,f2,f3,f4,f5⟩:=hf it (by simp)
    exact wpAny_pyNext_enum_end (I.ok.hd hc) he hit pl.isList (by simp; omega) fun h' eb=>⟨rfl,I.turned (t':=s.toks) (fun b o hb q=>eb b o hb q) f0 f1 f3 f4 f5⟩
  self:=fun _ _ _ _ _ st h=>let ⟨⟨_,he⟩,_⟩:=st; wpAny_pyIter_enum he h
def iEnum (K:PySem.W.Frag) (ta:TA):TI:=fun σ H R=>ta σ H fun vs H1=>∃ a xs,vs = [.ref a]∧SqL K H1 a xs∧R (Ite K a) H1
theorem boot_enumerate:bootBuiltins "enumerate" = some (.type "enumerate"):=by decide +kernel
theorem pi_enum {l:Expr} {ta:TA} {p pos:Pos} {els:List Expr} {x1} {pt:Pos} (hg:Gl X "enumerate") (hm:X.mg "enumerate" = none) (ha:PA X [l] ta) (hs:starEach [l] X.env = [(false,eval l X.env)]:=by rfl) :
    PI X (.Tuple els x1 pt) (.Call (.Name "enumerate" p) [l] [] pos) (iEnum X.K ta):=by
  intro pins s σ H R I h
  refine Call_ (ld_blt I hg hm boot_enumerate (PyProof.Rows.callWith_type1 (thn (ha pos pins s σ H _ I h) fun us s1 ⟨vs,H1,I1,r1,q1⟩=>?_) hs rfl))
  obtain ⟨a,xs,e,hq,q⟩:=q1
  subst e
  obtain ⟨u,rfl,ru⟩:=vals1 r1
  cases ru
  obtain ⟨its,rv,pl,hz⟩:=I1.list hq
  refine call_enumerate_list pl.isList fun h' he hit hsz hk=>?_
  have J:Inv X pins σ H1 { s1 with heap:=h',toks:=s1.toks }:=I1.kept hk
  refine wpAny_pyIter_enum he ?_
  refine ⟨s1.heap.objs.size + 1,[s1.heap.objs.size + 1,s1.heap.objs.size],_,_,H1,rfl,J,turn_enum a _ _ (Nat.ne_of_gt (Nat.lt_succ_self _)),⟨⟨_,he⟩,hit⟩,fun b hb=>?_,q⟩
  have gb:s1.heap.objs.size≤b:=by
    rcases List.mem_cons.mp hb with z | z
    · rw [z]; exact Nat.le_succ _
    · have z':b = s1.heap.objs.size:=by simpa using z
      rw [z']; exact Nat.le_refl _
  exact I1.fpOk gb (I1.hok.fresh gb)
theorem for_enum {K:PySem.W.Frag} {a:Addr} {xs:List V} {g:TG} {tb:TS} {D:Ends} {σ:St} {H:Hp} (Pv:Nat→St→Hp→Prop) (h0:Pv 0 σ H) (hl:∀ i σ H,i≤xs.length→Pv i σ H→SqL K H a xs)
    (hs:∀ i x σ H p,xs[i]? = some x→Pv i σ H→H p = none→g (.ref p) σ (upd H p (.tup [.int (i:Nat),x])) fun σ2 H2=>tb { D with nx:=Pv (i + 1),ct:=Pv (i + 1),bk:=D.nx } σ2 H2) (hd:∀ σ H,Pv xs.length σ H→D.nx σ H) :
    ∃ W:Nat→Nat→St→Hp→Prop,(∃ m,W 0 m σ H)∧∀ i m σ H,W i m σ H →
      ((Ite K a).stop i H∧D.nx σ H)∨((Ite K a).go i H∧∃ N:St→Hp→Prop,(∀ σ' H',N σ' H'→∃ m',m' < m∧W (i + 1) m' σ' H')∧∀ x H',(Ite K a).yld i H x H'→g x σ H' fun σ2 H2=>tb { D with nx:=N,ct:=N,bk:=D.nx } σ2 H2):=by
  refine ⟨fun i m σ H=>m = xs.length - i∧i≤xs.length∧Pv i σ H,⟨xs.length,by simp,Nat.zero_le _,h0⟩,?_⟩
  rintro i m σ H ⟨rfl,hi,p⟩
  have q:=hl i σ H hi p
  by_cases hlt:i < xs.length
  · refine .inr ⟨⟨xs,xs[i],q,by simp [hlt]⟩,Pv (i + 1),fun σ' H' p'=>⟨xs.length - (i + 1),by omega,rfl,hlt,p'⟩,fun x H' y=>?_⟩
    obtain ⟨pp,z,q1,rfl,q3,rfl⟩:=y
    exact hs i z σ H pp (q1 xs q) p q3
  · have e:i = xs.length:=by omega
    subst e
    exact .inl ⟨⟨xs,q,Nat.le_refl _⟩,hd σ H p⟩
end
end L2
namespace L2
open PySem PySem.Spec PyProof.Rows
theorem bt_len:bootBuiltins "len" = some (.builtin "len"):=by decide +kernel
theorem bt_all:bootBuiltins "all" = some (.builtin "all"):=by decide +kernel
theorem bt_isinstance:bootBuiltins "isinstance" = some (.builtin "isinstance"):=by decide +kernel
theorem bt_str:bootBuiltins "str" = some (.type "str"):=by decide +kernel
theorem bt_tuple:bootBuiltins "tuple" = some (.type "tuple"):=by decide +kernel
theorem bt_list:bootBuiltins "list" = some (.type "list"):=by decide +kernel
theorem bt_set:bootBuiltins "set" = some (.type "set"):=by decide +kernel
theorem rel_of_abs {v:V} {u:Value} (h:absV u = some v):RelV v u:=by
  cases u <;> simp only [absV,Option.some.injEq,reduceCtorEq] at h <;> subst h <;> first | exact rfl | exact ⟨_,rfl⟩
theorem vals_of_abs:∀ {us:List Value} {xs:List V},us.map absV = xs.map some→Vals xs us
  | [],[],_=>.nil
  | u :: us,x :: xs,h=>by
    rw [List.map_cons,List.map_cons] at h
    injection h with h1 h2
    exact .cons (rel_of_abs h1) (vals_of_abs h2)
  | [],_ :: _,h=>by cases h
  | _ :: _,[],h=>by cases h
theorem sqT_K {K:PySem.W.Frag} {H:Hp} {p:Addr} {od:Option Addr} {it:Array Value} {n:Nat} {sl:Array (Option Value)} {xs:List V} (l:K.lookup p = some ⟨.type "tuple", od,.seq it n,sl⟩) (v:it.toList.map absV = xs.map some) (hz:xs.length≤1000):SqT K H p xs:=by
  have r:=vals_of_abs v
  refine .inr ⟨_,it,n,l,rfl,rfl,?_,r⟩
  have e:xs.length = it.size:=by have:=r.length; simpa using this
  rw [← e]
  exact Nat.le_of_lt (small1000 hz)
theorem dk_nil {P:Program} {w:World}:Pairs (strKind P w) [] []∧∀ e∈([]:List DictEntry),∃ k,(strKind P w).is k e.key = true∧e.hash = (strKind P w).hash k:=⟨.nil,fun _ h=>nomatch h⟩
theorem dk_cons {P:Program} {w:World} {k:Str} {t:Tok} {v:Value} {es:List DictEntry} {kvs:List (Str × Value)} (h:Pairs (strKind P w) es kvs∧∀ e∈es,∃ k,(strKind P w).is k e.key = true∧e.hash = (strKind P w).hash k) :
    Pairs (strKind P w) (⟨hashStr w k,.str k t,v⟩ :: es) ((k,v) :: kvs)∧∀ e∈(⟨hashStr w k,.str k t,v⟩ :: es:List DictEntry),∃ k,(strKind P w).is k e.key = true∧e.hash = (strKind P w).hash k:=by
  refine ⟨.cons (strKind_is _ _ k t) rfl h.1,fun e he=>?_⟩
  rcases List.mem_cons.mp he with z | z
  · subst z; exact ⟨k,strKind_is _ _ k t,rfl⟩
  · exact h.2 e z
theorem dicK_mk {P:Program} {w:World} {K:PySem.W.Frag} {p:Addr} {es:Array DictEntry} {ep:Nat} {el:List DictEntry} {kvs:List (Str × Value)} (l:K.lookup p = some ⟨.type "dict", none,.dict es ep,#[]⟩) (e:es.toList = el) (s:(p == sysModules) = false)
    (h:Pairs (strKind P w) el kvs∧∀ e∈el,∃ k,(strKind P w).is k e.key = true∧e.hash = (strKind P w).hash k) (nd:(kvs.map (·.1)).Nodup):DicK K P w p kvs:=by
  subst e
  exact ⟨s,_,l,es,ep,⟨rfl,rfl,rfl⟩,rfl,fun x hx=>h.2 x (by simpa using hx),h.1,nd⟩
end L2
namespace Sen
open PySem
inductive Sn where
  | c0 (y:Bool)
  | mk (x:Str)
  | nt (s:Sn)
  | b2 (o:Fin 4) (s t:Sn)
  | q1 (o:Bool) (x:Str) (s:Sn)
def w2:Fin 4→Str
  | 0 => "and"
  | 1 => "or"
  | 2 => "either"
  | 3 => "if"
namespace Sn
def word:Sn→Str
  | c0 true => "yes"
  | c0 false => "no"
  | mk _ => "mark"
  | nt _ => "not"
  | b2 o _ _=>w2 o
  | q1 true _ _ => "some"
  | q1 false _ _ => "each"
def letters:Sn→List Str
  | mk x=>[x]
  | q1 _ x _=>[x]
  | _=>[]
def parts:Sn→List Sn
  | nt s=>[s]
  | b2 _ s t=>[s,t]
  | q1 _ _ s=>[s]
  | _=>[]
def count:Sn→Nat
  | nt s=>1 + s.count
  | b2 _ s t=>1 + (s.count + t.count)
  | q1 _ _ s=>1 + s.count
  | _=>1
def depth:Sn→Nat
  | nt s=>1 + s.depth
  | b2 _ s t=>1 + max s.depth t.depth
  | q1 _ _ s=>1 + s.depth
  | _=>1
def inO (os:List Str):Sn→Prop
  | c0 _=>True
  | mk x=>x∈os
  | nt s=>s.inO os
  | b2 _ s t=>s.inO os∧t.inO os
  | q1 _ x s=>x∈os∧s.inO os
def op2:Fin 4→Bool→Bool→Bool
  | 0,a,b=>a && b
  | 1,a,b=>a || b
  | 2,a,b=>a != b
  | 3,a,b=>!a || b
def val:Sn→(Str→Bool)→Bool
  | c0 y,_=>y
  | mk x,e=>e x
  | nt s,e=>!s.val e
  | b2 o s t,e=>op2 o (s.val e) (t.val e)
  | q1 true x s,e=>s.val (fun y=>if y = x then true else e y) || s.val (fun y=>if y = x then false else e y)
  | q1 false x s,e=>s.val (fun y=>if y = x then true else e y) && s.val (fun y=>if y = x then false else e y)
theorem val_congr {os:List Str}:∀ (s:Sn) {e e':Str→Bool},s.inO os→(∀ x∈os,e x = e' x)→s.val e = s.val e'
  | c0 _,_,_,_,_=>rfl
  | mk x,_,_,h,q=>q x h
  | nt s,_,_,h,q=>by unfold val; rw [val_congr s h q]
  | b2 o s t,_,_,h,q=>by unfold val; rw [val_congr s h.1 q,val_congr t h.2 q]
  | q1 o x s,e,e',h,q=>by
    have k:∀ b:Bool,s.val (fun y=>if y = x then b else e y) = s.val (fun y=>if y = x then b else e' y):=fun b=>val_congr s h.2 fun y hy=>by
      by_cases hx:y = x
      · rw [if_pos hx,if_pos hx]
      · rw [if_neg hx,if_neg hx,q y hy]
    cases o <;> (unfold val; rw [k,k])
theorem depth_pos:∀ s:Sn,1≤s.depth
  | c0 _=>Nat.le_refl _
  | mk _=>Nat.le_refl _
  | nt _=>by unfold depth; omega
  | b2 _ _ _=>by unfold depth; omega
  | q1 _ _ _=>by unfold depth; omega
theorem count_parts:∀ s:Sn,s.count = 1 + (s.parts.map count).sum
  | c0 _=>rfl
  | mk _=>rfl
  | nt _=>by simp [count,parts]
  | b2 _ _ _=>by simp [count,parts]
  | q1 _ _ _=>by simp [count,parts]
theorem depth_parts:∀ (s:Sn),∀ t∈s.parts,t.depth + 1≤s.depth
  | c0 _,t,h=>by simp [parts] at h
  | mk _,t,h=>by simp [parts] at h
  | nt s,t,h=>by simp [parts] at h; subst h; show t.depth + 1≤1 + t.depth; omega
  | b2 _ s u,t,h=>by
    simp [parts] at h
    rcases h with h | h
    · subst h; show t.depth + 1≤1 + max t.depth u.depth; omega
    · subst h; show t.depth + 1≤1 + max s.depth t.depth; omega
  | q1 _ _ s,t,h=>by simp [parts] at h; subst h; show t.depth + 1≤1 + t.depth; omega
theorem inO_parts {os:List Str}:∀ (s:Sn),s.inO os→∀ t∈s.parts,t.inO os
  | c0 _,_,t,h=>by simp [parts] at h
  | mk _,_,t,h=>by simp [parts] at h
  | nt s,q,t,h=>by simp [parts] at h; subst h; exact q
  | b2 _ s u,q,t,h=>by
    simp [parts] at h
    rcases h with h | h <;> subst h
    · exact q.1
    · exact q.2
  | q1 _ _ s,q,t,h=>by simp [parts] at h; subst h; exact q.2
theorem inO_letters {os:List Str}:∀ (s:Sn),s.inO os→∀ x∈s.letters,x∈os
  | c0 _,_,t,h=>by simp [letters] at h
  | mk _,q,t,h=>by simp [letters] at h; subst h; exact q
  | nt s,q,t,h=>by simp [letters] at h
  | b2 _ s u,q,t,h=>by simp [letters] at h
  | q1 _ _ s,q,t,h=>by simp [letters] at h; subst h; exact q.1
end Sn
theorem tb_add_same (b p:Nat):(b + 2 ^ p).testBit p = !b.testBit p:=by rw [Nat.add_comm]; exact Nat.testBit_two_pow_add_eq b p
theorem tb_add_lt {b p j:Nat} (h:j < p):(b + 2 ^ p).testBit j = b.testBit j:=by rw [Nat.add_comm]; exact Nat.testBit_two_pow_add_gt h b
theorem bit0_mod {b p:Nat} (h:b.testBit p = false):b % 2 ^ (p + 1) < 2 ^ p:=by
  have e:b % 2 ^ (p + 1) = b % 2 ^ p + 2 ^ p * (b / 2 ^ p % 2):=by
    rw [Nat.pow_succ]; exact Nat.mod_mul
  have z:b / 2 ^ p % 2 = 0:=by
    rw [Nat.testBit_eq_decide_div_mod_eq] at h
    have:=of_decide_eq_false h
    omega
  rw [e,z,Nat.mul_zero,Nat.add_zero]
  exact Nat.mod_lt b (Nat.two_pow_pos p)
theorem tb_div (x i j:Nat):x.testBit (i + j) = (x / 2 ^ i).testBit j:=by
  rw [Nat.testBit_div_two_pow,Nat.add_comm]
theorem tb_add_gt {b p j:Nat} (h:p < j) (h0:b.testBit p = false):(b + 2 ^ p).testBit j = b.testBit j:=by
  obtain ⟨k,rfl⟩:∃ k,j = (p + 1) + k:=⟨j - (p + 1),by omega⟩
  rw [tb_div,tb_div]
  have hm:=bit0_mod h0
  have e:(b + 2 ^ p) / 2 ^ (p + 1) = b / 2 ^ (p + 1):=by
    have hp:2 ^ (p + 1) = 2 ^ p + 2 ^ p:=by rw [Nat.pow_succ]; omega
    have d:=Nat.div_add_mod b (2 ^ (p + 1))
    have pos:=Nat.two_pow_pos (p + 1)
    rw [Nat.div_eq_iff pos]
    have c:b / 2 ^ (p + 1) * 2 ^ (p + 1) = 2 ^ (p + 1) * (b / 2 ^ (p + 1)):=Nat.mul_comm _ _
    rw [c]
    omega
  rw [e]
def putBit (b p:Nat) (v:Bool):Nat:=if b.testBit p = v then b else if v then b + 2 ^ p else b - 2 ^ p
theorem ge_of_bit {b p:Nat} (h:b.testBit p = true):2 ^ p≤b:=Nat.ge_two_pow_of_testBit h
theorem putBit_bit (b p j:Nat) (v:Bool):(putBit b p v).testBit j = if j = p then v else b.testBit j:=by
  unfold putBit
  by_cases h:b.testBit p = v
  · rw [if_pos h]
    by_cases hj:j = p
    · rw [if_pos hj,hj,h]
    · rw [if_neg hj]
  · rw [if_neg h]
    cases v with
    | true =>
      have h0:b.testBit p = false:=by simpa using h
      rw [if_pos rfl]
      by_cases hj:j = p
      · subst hj; rw [if_pos rfl,tb_add_same,h0]; rfl
      · rw [if_neg hj]
        rcases Nat.lt_or_gt_of_ne hj with q | q
        · exact tb_add_lt q
        · exact tb_add_gt q h0
    | false =>
      have h1:b.testBit p = true:=by simpa using h
      rw [if_neg Bool.false_ne_true]
      have ge:=ge_of_bit h1
      obtain ⟨c,hc⟩:∃ c,b = c + 2 ^ p:=⟨b - 2 ^ p,by omega⟩
      have h0:c.testBit p = false:=by
        rw [hc,tb_add_same] at h1
        simpa using h1
      have e:b - 2 ^ p = c:=by omega
      rw [e,hc]
      by_cases hj:j = p
      · subst hj; rw [if_pos rfl,h0]
      · rw [if_neg hj]
        rcases Nat.lt_or_gt_of_ne hj with q | q
        · exact (tb_add_lt q).symm
        · exact (tb_add_gt q h0).symm
theorem putBit_lt {b p n:Nat} {v:Bool} (hb:b < 2 ^ n) (hp:p < n):putBit b p v < 2 ^ n:=by
  refine Nat.lt_pow_two_of_testBit _ fun i hi=>?_
  rw [putBit_bit,if_neg (by omega)]
  exact Nat.testBit_lt_two_pow (Nat.lt_of_lt_of_le hb (Nat.pow_le_pow_right (by decide) hi))
def IsTab (n:Nat) (N:Nat) (f:Nat→Bool):Prop:=∀ b,N.testBit b = (decide (b < 2 ^ n) && f b)
theorem tab_all (n:Nat):IsTab n (2 ^ 2 ^ n - 1) (fun _=>true):=fun b=>by
  rw [Nat.testBit_two_pow_sub_one,Bool.and_true]
theorem tab_zero (n:Nat):IsTab n 0 (fun _=>false):=fun b=>by simp
theorem tab_xor {n N M:Nat} {f g:Nat→Bool} (h:IsTab n N f) (k:IsTab n M g):IsTab n (N ^^^ M) (fun b=>f b != g b):=fun b=>by
  rw [Nat.testBit_xor,h b,k b]
  show _ = (decide (b < 2 ^ n) && (f b != g b))
  cases decide (b < 2 ^ n) <;> cases f b <;> cases g b <;> rfl
theorem tab_and {n N M:Nat} {f g:Nat→Bool} (h:IsTab n N f) (k:IsTab n M g):IsTab n (N &&& M) (fun b=>f b && g b):=fun b=>by
  rw [Nat.testBit_and,h b,k b]
  show _ = (decide (b < 2 ^ n) && (f b && g b))
  cases decide (b < 2 ^ n) <;> cases f b <;> cases g b <;> rfl
theorem tab_or {n N M:Nat} {f g:Nat→Bool} (h:IsTab n N f) (k:IsTab n M g):IsTab n (N ||| M) (fun b=>f b || g b):=fun b=>by
  rw [Nat.testBit_or,h b,k b]
  show _ = (decide (b < 2 ^ n) && (f b || g b))
  cases decide (b < 2 ^ n) <;> cases f b <;> cases g b <;> rfl
theorem tab_congr {n N:Nat} {f g:Nat→Bool} (h:IsTab n N f) (e:∀ b,b < 2 ^ n→f b = g b):IsTab n N g:=fun b=>by
  rw [h b]
  by_cases hb:b < 2 ^ n
  · rw [e b hb]
  · rw [decide_eq_false hb]; rfl
theorem tab_lt {n N:Nat} {f:Nat→Bool} (h:IsTab n N f):N < 2 ^ 2 ^ n:=Nat.lt_pow_two_of_testBit _ fun i hi=>by
  rw [h i,decide_eq_false (by omega)]; rfl
theorem tab_block (p:Nat):IsTab (p + 1) ((2 ^ 2 ^ p - 1) * 2 ^ 2 ^ p) (fun b=>b.testBit p):=fun b=>by
  rw [Nat.testBit_mul_two_pow,Nat.testBit_two_pow_sub_one]
  show _ = (decide (b < 2 ^ (p + 1)) && b.testBit p)
  have hp:2 ^ (p + 1) = 2 ^ p + 2 ^ p:=by rw [Nat.pow_succ]; omega
  by_cases h1:2 ^ p≤b
  · by_cases h2:b < 2 ^ (p + 1)
    · have e:b.testBit p = true:=by
        obtain ⟨c,rfl⟩:∃ c,b = c + 2 ^ p:=⟨b - 2 ^ p,by omega⟩
        rw [tb_add_same,Nat.testBit_lt_two_pow (by omega)]
        rfl
      rw [e]
      simp [h1,h2]
      omega
    · simp [h2]
      intro _
      omega
  · have e:b.testBit p = false:=Nat.testBit_lt_two_pow (by omega)
    rw [e]
    simp [h1]
theorem tab_double {p m N:Nat} (hp:p < m) (h:IsTab m N (fun b=>b.testBit p)):IsTab (m + 1) (N ||| N * 2 ^ 2 ^ m) (fun b=>b.testBit p):=fun b=>by
  rw [Nat.testBit_or,Nat.testBit_mul_two_pow,h b,h (b - 2 ^ m)]
  show (_ || (_ && (_ && (b - 2 ^ m).testBit p))) = (decide (b < 2 ^ (m + 1)) && b.testBit p)
  have hm:2 ^ (m + 1) = 2 ^ m + 2 ^ m:=by rw [Nat.pow_succ]; omega
  by_cases h1:b < 2 ^ m
  · have h2:b < 2 ^ (m + 1):=by omega
    have h3:¬ 2 ^ m≤b:=by omega
    simp [h1,h2,h3]
  · have h3:2 ^ m≤b:=by omega
    have e:(b - 2 ^ m).testBit p = b.testBit p:=by
      obtain ⟨c,rfl⟩:∃ c,b = c + 2 ^ m:=⟨b - 2 ^ m,by omega⟩
      rw [tb_add_lt hp,Nat.add_sub_cancel]
    rw [e]
    by_cases h2:b < 2 ^ (m + 1)
    · have h4:b - 2 ^ m < 2 ^ m:=by omega
      simp [h1,h2,h3,h4]
    · have h4:¬ b - 2 ^ m < 2 ^ m:=by omega
      simp [h1,h2,h3,h4]
theorem tab_flip {n p N R:Nat} {f:Nat→Bool} (hp:p < n) (h:IsTab n N f) (r:IsTab n R (fun b=>b.testBit p)) :
    IsTab n ((N &&& R) / 2 ^ 2 ^ p ||| (N ^^^ (N &&& R)) * 2 ^ 2 ^ p) (fun b=>f (putBit b p (!b.testBit p))):=fun b=>by
  have o:=tab_and h r
  have z:=tab_xor h o
  have pp:=Nat.two_pow_pos p
  rw [Nat.testBit_or,Nat.testBit_mul_two_pow,Nat.testBit_div_two_pow,o,z]
  dsimp only
  by_cases hb:b < 2 ^ n
  · cases hbit:b.testBit p with
    | false =>
      have e:putBit b p (!false) = b + 2 ^ p:=by
        unfold putBit
        rw [hbit,if_neg (by decide),if_pos (by decide)]
      have lt:b + 2 ^ p < 2 ^ n:=by rw [← e]; exact putBit_lt hb hp
      rw [e,tb_add_same,hbit]
      by_cases h1:2 ^ p≤b
      · have e2:(b - 2 ^ p).testBit p = true:=by
          obtain ⟨c,rfl⟩:∃ c,b = c + 2 ^ p:=⟨b - 2 ^ p,by omega⟩
          rw [tb_add_same] at hbit
          rw [Nat.add_sub_cancel]
          simpa using hbit
        rw [e2]
        have h4:b - 2 ^ p < 2 ^ n:=by omega
        simp [hb,lt,h1,h4]
      · simp [hb,lt,h1]
    | true =>
      have ge:=ge_of_bit hbit
      have e:putBit b p (!true) = b - 2 ^ p:=by
        unfold putBit
        rw [hbit,if_neg (by decide),if_neg (by decide)]
      have e2:(b - 2 ^ p).testBit p = false:=by
        obtain ⟨c,rfl⟩:∃ c,b = c + 2 ^ p:=⟨b - 2 ^ p,by omega⟩
        rw [tb_add_same] at hbit
        rw [Nat.add_sub_cancel]
        simpa using hbit
      rw [e,tb_add_same,hbit,e2]
      have h4:b - 2 ^ p < 2 ^ n:=by omega
      simp [hb,ge,h4]
  · have h3:¬ b + 2 ^ p < 2 ^ n:=by omega
    have h5:(decide (2 ^ p≤b) && (decide (b - 2 ^ p < 2 ^ n) && (f (b - 2 ^ p) != (f (b - 2 ^ p) && (b - 2 ^ p).testBit p)))) = false:=by
      by_cases h1:2 ^ p≤b
      · by_cases h4:b - 2 ^ p < 2 ^ n
        · -- b lies at or beyond 2 ^ n,less 2 ^ p below it: its bit p is 1
          have e:(b - 2 ^ p).testBit p = true:=by
            cases q:(b - 2 ^ p).testBit p with
            | true=>rfl
            | false =>
              exfalso
              have l:=putBit_lt (v:=true) h4 hp
              unfold putBit at l
              rw [q,if_neg (by decide),if_pos rfl] at l
              omega
          rw [e]
          cases f (b - 2 ^ p) <;> simp
        · simp [h4]
      · simp [h1]
    rw [h5]
    simp [hb,h3]
end Sen
namespace Sen
open PySem
theorem tb0 (a:Nat):a % 2 = (a.testBit 0).toNat:=by
  rw [Nat.testBit_zero]
  have:=Nat.mod_two_eq_zero_or_one a
  rcases this with h | h <;> rw [h] <;> rfl
theorem xor_add:∀ (n a b:Nat),a≤n→(a ^^^ b) + 2 * (a &&& b) = a + b
  | 0,a,b,h=>by
    have:a = 0:=by omega
    subst this; simp
  | n + 1,a,b,h=>by
    by_cases h0:a = 0
    · subst h0; simp
    · have ih:=xor_add n (a / 2) (b / 2) (by omega)
      have e1:(a ^^^ b) / 2 = a / 2 ^^^ b / 2:=Nat.xor_div_two
      have e2:(a &&& b) / 2 = a / 2 &&& b / 2:=Nat.and_div_two
      have d1:=Nat.div_add_mod (a ^^^ b) 2
      have d2:=Nat.div_add_mod (a &&& b) 2
      have d3:=Nat.div_add_mod a 2
      have d4:=Nat.div_add_mod b 2
      rw [e1] at d1
      rw [e2] at d2
      cases ha:a.testBit 0 <;> cases hb:b.testBit 0
      · have m1:(a ^^^ b) % 2 = 0:=by rw [tb0,Nat.testBit_xor,ha,hb]; rfl
        have m2:(a &&& b) % 2 = 0:=by rw [tb0,Nat.testBit_and,ha,hb]; rfl
        have m3:a % 2 = 0:=by rw [tb0,ha]; rfl
        have m4:b % 2 = 0:=by rw [tb0,hb]; rfl
        omega
      · have m1:(a ^^^ b) % 2 = 1:=by rw [tb0,Nat.testBit_xor,ha,hb]; rfl
        have m2:(a &&& b) % 2 = 0:=by rw [tb0,Nat.testBit_and,ha,hb]; rfl
        have m3:a % 2 = 0:=by rw [tb0,ha]; rfl
        have m4:b % 2 = 1:=by rw [tb0,hb]; rfl
        omega
      · have m1:(a ^^^ b) % 2 = 1:=by rw [tb0,Nat.testBit_xor,ha,hb]; rfl
        have m2:(a &&& b) % 2 = 0:=by rw [tb0,Nat.testBit_and,ha,hb]; rfl
        have m3:a % 2 = 1:=by rw [tb0,ha]; rfl
        have m4:b % 2 = 0:=by rw [tb0,hb]; rfl
        omega
      · have m1:(a ^^^ b) % 2 = 0:=by rw [tb0,Nat.testBit_xor,ha,hb]; rfl
        have m2:(a &&& b) % 2 = 1:=by rw [tb0,Nat.testBit_and,ha,hb]; rfl
        have m3:a % 2 = 1:=by rw [tb0,ha]; rfl
        have m4:b % 2 = 1:=by rw [tb0,hb]; rfl
        omega
theorem or_add:∀ (n a b:Nat),a≤n→(a ||| b) + (a &&& b) = a + b
  | 0,a,b,h=>by
    have:a = 0:=by omega
    subst this; simp
  | n + 1,a,b,h=>by
    by_cases h0:a = 0
    · subst h0; simp
    · have ih:=or_add n (a / 2) (b / 2) (by omega)
      have e1:(a ||| b) / 2 = a / 2 ||| b / 2:=Nat.or_div_two
      have e2:(a &&& b) / 2 = a / 2 &&& b / 2:=Nat.and_div_two
      have d1:=Nat.div_add_mod (a ||| b) 2
      have d2:=Nat.div_add_mod (a &&& b) 2
      have d3:=Nat.div_add_mod a 2
      have d4:=Nat.div_add_mod b 2
      rw [e1] at d1
      rw [e2] at d2
      cases ha:a.testBit 0 <;> cases hb:b.testBit 0
      · have m1:(a ||| b) % 2 = 0:=by rw [tb0,Nat.testBit_or,ha,hb]; rfl
        have m2:(a &&& b) % 2 = 0:=by rw [tb0,Nat.testBit_and,ha,hb]; rfl
        have m3:a % 2 = 0:=by rw [tb0,ha]; rfl
        have m4:b % 2 = 0:=by rw [tb0,hb]; rfl
        omega
      · have m1:(a ||| b) % 2 = 1:=by rw [tb0,Nat.testBit_or,ha,hb]; rfl
        have m2:(a &&& b) % 2 = 0:=by rw [tb0,Nat.testBit_and,ha,hb]; rfl
        have m3:a % 2 = 0:=by rw [tb0,ha]; rfl
        have m4:b % 2 = 1:=by rw [tb0,hb]; rfl
        omega
      · have m1:(a ||| b) % 2 = 1:=by rw [tb0,Nat.testBit_or,ha,hb]; rfl
        have m2:(a &&& b) % 2 = 0:=by rw [tb0,Nat.testBit_and,ha,hb]; rfl
        have m3:a % 2 = 1:=by rw [tb0,ha]; rfl
        have m4:b % 2 = 0:=by rw [tb0,hb]; rfl
        omega
      · have m1:(a ||| b) % 2 = 1:=by rw [tb0,Nat.testBit_or,ha,hb]; rfl
        have m2:(a &&& b) % 2 = 1:=by rw [tb0,Nat.testBit_and,ha,hb]; rfl
        have m3:a % 2 = 1:=by rw [tb0,ha]; rfl
        have m4:b % 2 = 1:=by rw [tb0,hb]; rfl
        omega
theorem andI (a b:Nat):Builtin.bitAnd (a:Int) (b:Int) = ((a &&& b:Nat):Int):=by
  unfold Builtin.bitAnd
  rw [decide_eq_true (Int.natCast_nonneg a),decide_eq_true (Int.natCast_nonneg b)]
  simp
theorem orI (a b:Nat):Builtin.bitOr (a:Int) (b:Int) = ((a ||| b:Nat):Int):=by
  rw [PyProof.Rows.bitOr_and,andI]
  have:=or_add a a b (Nat.le_refl _)
  omega
theorem xorI (a b:Nat):Builtin.bitXor (a:Int) (b:Int) = ((a ^^^ b:Nat):Int):=by
  rw [PyProof.Rows.bitXor_and,andI]
  have:=xor_add a a b (Nat.le_refl _)
  omega
theorem powI (n:Nat):(2:Int) ^ n = ((2 ^ n:Nat):Int):=by simp
end Sen
namespace L2
open PySem PySem.Spec PyProof.Rows Sen
section
variable {X:Cx}
def rShlN:R2:=fun x y H Q=>∃ a n:Nat,x = .int a∧y = .int n∧a < 2 ^ 10000∧n≤10000∧Q (.int (a * 2 ^ n:Nat)) H
theorem op_shlN:OpR X (binaryOp .LShift) rShlN:=by
  intro pins s σ H x y v u Q I rx ry h
  obtain ⟨a,n,rfl,rfl,ha,hn,q⟩:=h
  obtain ⟨t,rfl⟩:=rx
  obtain ⟨t',rfl⟩:=ry
  have hb:Builtin.Int.intBits (a:Int)≤10000:=intBits_le (by simpa using ha)
  refine lshift_int (Int.natCast_nonneg n) ?_ ?_
  · have e:(2:Int) ^ 27 = 134217728:=by decide
    rw [e]; omega
  · rw [Int.toNat_natCast]
    have e:(a:Int) * 2 ^ n = ((a * 2 ^ n:Nat):Int):=by rw [powI,Int.natCast_mul]
    rw [e]
    exact ⟨.int (a * 2 ^ n:Nat),H,I.tok _,⟨_,rfl⟩,q⟩
def rShrN:R2:=fun x y H Q=>∃ a n:Nat,x = .int a∧y = .int n∧Q (.int (a / 2 ^ n:Nat)) H
theorem op_shrN:OpR X (binaryOp .RShift) rShrN:=by
  intro pins s σ H x y v u Q I rx ry h
  obtain ⟨a,n,rfl,rfl,q⟩:=h
  refine op_shr pins s σ H _ _ v u Q I rx ry ⟨_,_,rfl,rfl,Int.natCast_nonneg n,?_⟩
  show Q (.int ((a:Int) / 2 ^ (n:Int).toNat)) H
  rw [Int.toNat_natCast,powI,← Int.natCast_ediv]
  exact q
def rN2 (g:Nat→Nat→Nat):R2:=fun x y H Q=>∃ a b:Nat,x = .int a∧y = .int b∧Q (.int (g a b:Nat)) H
theorem op_andN:OpR X (binaryOp .BitAnd) (rN2 (· &&& ·)):=by
  intro pins s σ H x y v u Q I rx ry h
  obtain ⟨a,b,rfl,rfl,q⟩:=h
  exact op_and pins s σ H _ _ v u Q I rx ry ⟨_,_,rfl,rfl,by show Q (.int (Builtin.bitAnd a b)) H; rw [andI]; exact q⟩
theorem op_orN:OpR X (binaryOp .BitOr) (rN2 (· ||| ·)):=by
  intro pins s σ H x y v u Q I rx ry h
  obtain ⟨a,b,rfl,rfl,q⟩:=h
  exact op_or pins s σ H _ _ v u Q I rx ry ⟨_,_,rfl,rfl,by show Q (.int (Builtin.bitOr a b)) H; rw [orI]; exact q⟩
theorem op_xorN:OpR X (binaryOp .BitXor) (rN2 (· ^^^ ·)):=by
  intro pins s σ H x y v u Q I rx ry h
  obtain ⟨a,b,rfl,rfl,q⟩:=h
  exact op_xor pins s σ H _ _ v u Q I rx ry ⟨_,_,rfl,rfl,by show Q (.int (Builtin.bitXor a b)) H; rw [xorI]; exact q⟩
end
end L2
namespace L2
open PySem PySem.Spec PyProof.Rows
def strsOf:List Expr→Option (List Str)
  | []=>some []
  | .Constant (.str x) _ _ :: r=>(strsOf r).map (x :: ·)
  | _=>none
theorem strsOf_cons {e:Expr} {r:List Expr} {xs:List Str} (h:strsOf (e :: r) = some xs):∃ x j p ys,e = .Constant (.str x) j p∧strsOf r = some ys∧xs = x :: ys:=by
  cases e with
  | Constant c j p =>
    cases c with
    | str x =>
      have h':(strsOf r).map (x :: ·) = some xs:=h
      cases hr:strsOf r with
      | none=>rw [hr] at h'; cases h'
      | some ys =>
        rw [hr] at h'
        exact ⟨x,j,p,ys,rfl,rfl,(Option.some.inj h').symm⟩
    | _=>cases h
  | _=>cases h
def tStrs (xs:List Str):TA:=fun _ H Q=>Q (xs.map V.str) H
def tStrL (xs:List Str):TE:=fun _ H Q=>xs.length≤sizeLine∧∀ p,H p = none→Q (.ref p) (upd H p (.lst (xs.map V.str)))
section
variable {X:Cx}
theorem pa_strs {es:List Expr}:∀ {xs:List Str},strsOf es = some xs→PA X es (tStrs xs):=by
  induction es with
  | nil =>
    intro xs h
    cases h
    exact fun pos pins s σ H Q I q=>pa_nil pos pins s σ H Q I q
  | cons e r ih =>
    intro xs h
    obtain ⟨x,j,p,ys,rfl,hr,rfl⟩:=strsOf_cons h
    exact fun pos pins s σ H Q I q=>pa_cons (pe_str (x:=x) (j:=j) (pos:=p)) (ih hr) rfl pos pins s σ H Q I q
theorem pe_strs {es:List Expr} {pos:Pos} {xs:List Str} (h:strsOf es = some xs):PE X (.List es pos) (tStrL xs):=by
  intro pins s σ H Q I q
  refine pe_lst (pa_strs h) pins s σ H Q I ⟨?_,q.2⟩
  rw [List.length_map]; exact q.1
end
end L2
set_option exponentiation.threshold 20000
namespace Sen
open PySem L2
section
variable {K:PySem.W.Frag}
theorem lt10k {a k:Nat} (h:a < 2 ^ k) (hk:k≤10000):a < 2 ^ 10000:=Nat.lt_of_lt_of_le h (Nat.pow_le_pow_right (by decide) hk)
theorem two8 {n:Nat} (hn:n≤8):2 ^ n≤256:=Nat.pow_le_pow_right (n:=2) (by decide) hn
inductive spAllRows (vs:List V) (H:Hp) (Q:VK) (E9:XK):Prop
  | mk (n:Nat) (_:vs = [.int n]) (_:n≤8) (_:Q (.int ((2 ^ 2 ^ n - 1:Nat):Int)) H):spAllRows vs H Q E9
inductive spRowsWith (vs:List V) (H:Hp) (Q:VK) (E9:XK):Prop
  | mk (p n:Nat) (_:vs = [.int p,.int n]) (_:p < n) (_:n≤8) (_:∀ R:Nat,IsTab n R (fun b=>b.testBit p)→Q (.int R) H):spRowsWith vs H Q E9
inductive spFlipped (vs:List V) (H:Hp) (Q:VK) (E9:XK):Prop
  | mk (N p n:Nat) (f:Nat→Bool) (_:vs = [.int N,.int p,.int n]) (_:p < n) (_:n≤8) (_:IsTab n N f) (_:∀ R:Nat,IsTab n R (fun b=>f (putBit b p (!b.testBit p)))→Q (.int R) H):spFlipped vs H Q E9
def rowBits:List Bool→Nat
  | []=>0
  | b :: r=>b.toNat + 2 * rowBits r
theorem rowBits_snoc:∀ (r:List Bool) (b:Bool),rowBits (r ++ [b]) = rowBits r + b.toNat * 2 ^ r.length
  | [],b=>by simp [rowBits]
  | c :: r,b=>by
    show c.toNat + 2 * rowBits (r ++ [b]) = c.toNat + 2 * rowBits r + b.toNat * 2 ^ (r.length + 1)
    rw [rowBits_snoc r b,Nat.pow_succ]
    have:b.toNat * (2 ^ r.length * 2) = 2 * (b.toNat * 2 ^ r.length):=by rw [← Nat.mul_assoc]; omega
    omega
theorem rowBits_lt:∀ r:List Bool,rowBits r < 2 ^ r.length
  | []=>by decide
  | b :: r=>by
    have:=rowBits_lt r
    show b.toNat + 2 * rowBits r < 2 ^ (r.length + 1)
    rw [Nat.pow_succ]
    cases b <;> simp <;> omega
theorem or_of_lt {x y n:Nat} (h:x < 2 ^ n):x ||| y * 2 ^ n = x + y * 2 ^ n:=by
  have e:=or_add x x (y * 2 ^ n) (Nat.le_refl _)
  have z:x &&& y * 2 ^ n = 0:=by
    refine Nat.eq_of_testBit_eq fun i=>?_
    rw [Nat.testBit_and,Nat.testBit_mul_two_pow,Nat.zero_testBit]
    by_cases hi:n≤i
    · rw [Nat.testBit_lt_two_pow (Nat.lt_of_lt_of_le h (Nat.pow_le_pow_right (by decide) hi))]
      rfl
    · simp [hi]
  omega
abbrev rowV (r:List Bool):List V:=r.map fun b=>V.int (b.toNat:Nat)
inductive spValueAt (K:PySem.W.Frag) (vs:List V) (H:Hp) (Q:VK) (E9:XK):Prop
  | mk (N n:Nat) (f:Nat→Bool) (l:Addr) (r:List Bool) (_:vs = [.int N,.ref l]) (_:IsTab n N f) (_:SqL K H l (rowV r)) (_:r.length = n) (_:n≤8) (_:∀ H',Same H H'→Q (.int ((f (rowBits r)).toNat:Nat)) H'):spValueAt K vs H Q E9
theorem same_new {H:Hp} {p:Addr} (h:H p = none) (o:HO):Same H (upd H p o):=fun b u q=>by rw [upd_ne (ne_of_none q h)]; exact q
def letts:List Str:=["a", "b", "c", "d", "e", "f", "g", "h"]
structure IsOrd (os:List Str):Prop where
  nd:os.Nodup
  mem:∀ x∈os,x∈letts
  pos:0 < os.length
theorem nodup_le {α:Type} [DecidableEq α]:∀ {xs ys:List α},xs.Nodup→(∀ x∈xs,x∈ys)→xs.length≤ys.length
  | [],_,_,_=>Nat.zero_le _
  | x :: xs,ys,nd,h=>by
    obtain ⟨h1,h2⟩:=List.nodup_cons.mp nd
    have hx:=h x List.mem_cons_self
    have ih:=nodup_le (xs:=xs) (ys:=ys.erase x) h2 fun y hy=>(List.mem_erase_of_ne (fun e:y = x=>h1 (by rw [← e]; exact hy))).mpr (h y (List.mem_cons_of_mem _ hy))
    rw [List.length_erase_of_mem hx] at ih
    have:=List.length_pos_of_mem hx
    rw [List.length_cons]
    omega
theorem IsOrd.le {os:List Str} (h:IsOrd os):os.length≤8:=nodup_le h.nd h.mem
def IsS (H:Hp):Sn→Addr→Prop
  | .c0 y,p=>H p = some (.tup [.str (Sn.word (.c0 y))])
  | .mk x,p=>H p = some (.tup [.str "mark", .str x])
  | .nt s,p=>∃ q,H p = some (.tup [.str "not", .ref q])∧IsS H s q
  | .b2 o s t,p=>∃ q r,H p = some (.tup [.str (w2 o),.ref q,.ref r])∧IsS H s q∧IsS H t r
  | .q1 o x s,p=>∃ q,H p = some (.tup [.str (if o then "some" else "each"),.str x,.ref q])∧IsS H s q
def Tups (H H':Hp):Prop:=∀ b xs,H b = some (.tup xs)→H' b = some (.tup xs)
theorem Tups.trans {H H1 H2:Hp} (a:Tups H H1) (b:Tups H1 H2):Tups H H2:=fun c o h=>b c o (a c o h)
theorem Tups.of {H H':Hp} (g:Same H H'):Tups H H':=fun b xs h=>g b _ h
theorem Tups.new {H:Hp} {p:Addr} (h:H p = none) (o:HO):Tups H (upd H p o):=fun b u q=>by rw [upd_ne (ne_of_none q h)]; exact q
theorem Tups.lst {H:Hp} {p:Addr} {xs:List V} (h:H p = some (.lst xs)) (o:HO):Tups H (upd H p o):=fun b u q=>by rw [upd_ne (ne_of q h (fun z=>nomatch z))]; exact q
theorem IsS.mono {H H':Hp} (g:Tups H H'):∀ {s:Sn} {p:Addr},IsS H s p→IsS H' s p
  | .c0 y,p,h=>g _ _ h
  | .mk x,p,h=>g _ _ h
  | .nt s,p,⟨q,h,k⟩=>⟨q,g _ _ h,k.mono g⟩
  | .b2 o s t,p,⟨q,r,h,k,l⟩=>⟨q,r,g _ _ h,k.mono g,l.mono g⟩
  | .q1 o x s,p,⟨q,h,k⟩=>⟨q,g _ _ h,k.mono g⟩
theorem q1_word (o:Bool) (x:Str) (s:Sn):Sn.word (.q1 o x s) = if o then Str.ofString "some" else Str.ofString "each" := by cases o <;> rfl
theorem IsS.shape {H:Hp}:∀ {s:Sn} {p:Addr},IsS H s p→∃ qs:List Addr,H p = some (.tup (.str s.word :: (s.letters.map V.str ++ qs.map V.ref)))∧Paired (IsS H) s.parts qs
  | .c0 y,p,h=>⟨[],h,.nil⟩
  | .mk x,p,h=>⟨[],h,.nil⟩
  | .nt s,p,⟨q,h,k⟩=>⟨[q],h,.cons k .nil⟩
  | .b2 o s t,p,⟨q,r,h,k,l⟩=>⟨[q,r],h,.cons k (.cons l .nil)⟩
  | .q1 o x s,p,⟨q,h,k⟩=>⟨[q],by rw [q1_word]; exact h,.cons k .nil⟩
end
end Sen
namespace L2
open PySem
section
variable {α β:Type} {R S:α→β→Prop}
theorem pd_app:∀ {xs ys:List α} {us ws:List β},Paired R xs us→Paired R ys ws→Paired R (xs ++ ys) (us ++ ws)
  | _,_,_,_,.nil,s=>s
  | _,_,_,_,.cons r t,s=>.cons r (pd_app t s)
theorem pd_imp (f:∀ a b,R a b→S a b):∀ {xs:List α} {us:List β},Paired R xs us→Paired S xs us
  | _,_,.nil=>.nil
  | _,_,.cons r t=>.cons (f _ _ r) (pd_imp f t)
theorem pd_len:∀ {xs:List α} {us:List β},Paired R xs us→xs.length = us.length
  | _,_,.nil=>rfl
  | _,_,.cons _ t=>by rw [List.length_cons,List.length_cons,pd_len t]
theorem pd_ta:∀ {xs:List α} {us:List β} {i:Nat} {u:β},Paired R xs us→us[i]? = some u→∃ x,xs[i]? = some x∧R x u
  | _,_,_,_,.nil,e=>by simp at e
  | _,_,0,_,.cons r _,e=>by simp at e; subst e; exact ⟨_,rfl,r⟩
  | _,_,i + 1,x,.cons _ t,e=>by
    obtain ⟨u,h1,h2⟩:=pd_ta (i:=i) (u:=x) t (by simpa using e)
    exact ⟨u,by simpa using h1,h2⟩
theorem take_next {α:Type} {xs:List α} {i:Nat} {x:α} (h:xs[i]? = some x):xs.take (i + 1) = xs.take i ++ [x]:=by
  rw [List.take_succ,h]
  rfl
theorem Same.seqT {K:PySem.W.Frag} {H H':Hp} {a:Addr} {xs:List V} (e:Same H H') (h:SqT K H a xs):SqT K H' a xs:=by
  rcases h with (h | ⟨o,h⟩) | h
  · exact .inl (.inl (e _ _ h))
  · exact .inl (.inr ⟨o,e _ _ h⟩)
  · exact .inr h
theorem Same.new {H:Hp} {p:Addr} (h:H p = none) (o:HO):Same H (upd H p o):=fun b u q=>by rw [upd_ne (ne_of_none q h)]; exact q
theorem Same.over {H H':Hp} {p:Addr} (g:Same H H') (h:H p = none) (o:HO):Same H (upd H' p o):=fun b u q=>by rw [upd_ne (ne_of_none q h)]; exact g b u q
theorem at0 {α:Type} {x:α} {xs:List α}:atI (x :: xs) 0 = some x:=atI_nat (j:=0) rfl
theorem at1 {α:Type} {x y:α} {xs:List α}:atI (x :: y :: xs) 1 = some y:=atI_nat (j:=1) rfl
end
section
variable {K:PySem.W.Frag} {a:Addr} {xs:List V} {σ:St} {js:List Nat} {te:TE} {H:Hp} {Qf:Addr→Hp→List V→Prop}
theorem lc_relL (R:V→V→Prop) (hq:SqL K H a xs) (hz:xs.length≤sizeLine)
    (hs:∀ (i:Nat) x H',xs[i]? = some x→Same H H'→te (lcS σ js (some x)) H' fun v H3=>R x v∧Same H H3)
    (me:∀ σ H Q Q',(∀ v H1,Q v H1→Q' v H1)→te σ H Q→te σ H Q')
    (hd:∀ ys H' p,Paired R xs ys→Same H H'→H' p = none→Qf p H' ys) :
    ∃ W:Nat→Nat→List V→Hp→Prop,(∃ m,W 0 m [] H)∧∀ i m ys H,W i m ys H →
      ((Itl K a).stop i H∧∀ p,H p = none→Qf p H ys) ∨
      ((Itl K a).go i H∧ys.length < sizeLine∧∀ x H',(Itl K a).yld i H x H'→tYes (lcS σ js (some x)) H' fun b H2 =>
        if b = true then te (lcS σ js (some x)) H2 fun v H3=>∃ m',m' < m∧W (i + 1) m' (ys ++ [v]) H3 else ∃ m',m' < m∧W (i + 1) m' ys H2):=by
  refine lc_list (fun i ys H'=>Same H H'∧Paired R (xs.take i) ys) ⟨Same.refl _,.nil⟩ hz ?_ ?_ (fun _ _ _ _ h q=>h _ _ q) me ?_
  · rintro i ys H' hi ⟨g,r⟩
    have:=pd_len r
    rw [List.length_take] at this
    exact ⟨g.seq hq,by omega⟩
  · rintro i x ys H' hx ⟨g,r⟩
    show te (lcS σ js (some x)) H' fun v H3=>Same H H3∧Paired R (xs.take (i + 1)) (ys ++ [v])
    refine me _ _ _ _ (fun v H3 h3=>⟨h3.2,?_⟩) (hs i x H' hx g)
    rw [take_next hx]
    exact pd_app r (.cons h3.1 .nil)
  · rintro ys H' p ⟨g,r⟩ hp
    rw [List.take_length] at r
    exact hd ys H' p r g hp
theorem lc_relT (R:V→V→Prop) (hq:SqT K H a xs) (hz:xs.length≤sizeLine)
    (hs:∀ (i:Nat) x H',xs[i]? = some x→Same H H'→te (lcS σ js (some x)) H' fun v H3=>R x v∧Same H H3)
    (me:∀ σ H Q Q',(∀ v H1,Q v H1→Q' v H1)→te σ H Q→te σ H Q')
    (hd:∀ ys H' p,Paired R xs ys→Same H H'→H' p = none→Qf p H' ys) :
    ∃ W:Nat→Nat→List V→Hp→Prop,(∃ m,W 0 m [] H)∧∀ i m ys H,W i m ys H →
      ((Itt K a).stop i H∧∀ p,H p = none→Qf p H ys) ∨
      ((Itt K a).go i H∧ys.length < sizeLine∧∀ x H',(Itt K a).yld i H x H'→tYes (lcS σ js (some x)) H' fun b H2 =>
        if b = true then te (lcS σ js (some x)) H2 fun v H3=>∃ m',m' < m∧W (i + 1) m' (ys ++ [v]) H3 else ∃ m',m' < m∧W (i + 1) m' ys H2):=by
  refine lc_tup (fun i ys H'=>Same H H'∧Paired R (xs.take i) ys) ⟨Same.refl _,.nil⟩ hz ?_ ?_ (fun _ _ _ _ h q=>h _ _ q) me ?_
  · rintro i ys H' hi ⟨g,r⟩
    have:=pd_len r
    rw [List.length_take] at this
    exact ⟨g.seqT hq,by omega⟩
  · rintro i x ys H' hx ⟨g,r⟩
    show te (lcS σ js (some x)) H' fun v H3=>Same H H3∧Paired R (xs.take (i + 1)) (ys ++ [v])
    refine me _ _ _ _ (fun v H3 h3=>⟨h3.2,?_⟩) (hs i x H' hx g)
    rw [take_next hx]
    exact pd_app r (.cons h3.1 .nil)
  · rintro ys H' p ⟨g,r⟩ hp
    rw [List.take_length] at r
    exact hd ys H' p r g hp
theorem pd_map {f:V→V}:∀ {xs ys:List V},Paired (fun x v=>v = f x) xs ys→ys = xs.map f
  | _,_,.nil=>rfl
  | _,_,.cons r t=>by rw [List.map_cons,r,pd_map t]
end
section
variable {X:Cx} {K:PySem.W.Frag} {a:Expr} {ta:TE}
theorem op_inK (h:X.K = K):OpR X (compareOp .In) (rIn K false):=by subst h; exact op_in_seq
theorem call_isinstK (h:X.K = K):CallR X (.builtin "isinstance") (fun xs H Q=>∃ x T t b,xs = [x,.ty T]∧TyOf K H x t∧PySem.W.kitOne K t (.type T) = some b∧Q (.bl b) H):=by subst h; exact call_isinst
theorem ix_listK (h:X.K = K):IxR X (rIxL K):=by subst h; exact ix_list
theorem pt_truthK (h:X.K = K) (ha:PE X a ta) (he:∀ whole,isTrue a X.env whole = (do let v ← whole; standAt a.pos; holding [v] (truthy v))):PT X a (fun σ H Q=>ta σ H fun x H'=>∃ k,TruV K x H' k∧Q k H'):=by subst h; exact pt_truth ha he
def SpMono (sp:Sp):Prop:=∀ vs H Q Q' E,(∀ v H1,Q v H1→Q' v H1)→sp vs H Q E→sp vs H Q' E
theorem mono1 {sp:Sp} (m:SpMono sp):∀ σ H Q Q',(∀ v H1,Q v H1→Q' v H1)→tCall sp [] E0 (tCons (tVar 0) tNil) σ H Q→tCall sp [] E0 (tCons (tVar 0) tNil) σ H Q' :=
  fun σ H Q Q' h ⟨v,e,q⟩=>⟨v,e,m _ _ _ _ _ h q⟩
theorem inV_strs (x:Str) (ts:List Str):inV (.str x) (ts.map V.str) = decide (x∈ts):=by
  induction ts with
  | nil=>rfl
  | cons t r ih =>
    have e:inV (.str x) ((t :: r).map V.str) = ((t == x) || inV (.str x) (r.map V.str)):=rfl
    rw [e,ih]
    by_cases h:t = x
    · subst h; simp
    · have h':¬ x = t:=fun z=>h z.symm
      simp [h,h']
theorem flat_strs (ts:List Str):(ts.map V.str).all flatV = true:=by
  rw [List.all_map,List.all_eq_true]
  exact fun _ _=>rfl
theorem cut_fore {w:V} {rest:List V} {m n:Nat} (h:rest.length = m + n):cutV (w :: rest) (some 1) (some (1 + (m:Int))) = rest.take m:=by
  have e1:HT.sIx (w :: rest).length 0 (some 1) = min 1 (w :: rest).length:=HT.sIx_nat _ _ 1
  have e2:HT.sIx (w :: rest).length (w :: rest).length (some (1 + (m:Int))) = min (1 + m) (w :: rest).length:=by
    have z:(1:Int) + (m:Int) = ((1 + m:Nat):Int):=by omega
    rw [z]; exact HT.sIx_nat _ _ _
  have l:(w :: rest).length = m + n + 1:=by rw [List.length_cons,h]
  unfold cutV
  rw [e1,e2,l,Nat.min_eq_left (by omega),Nat.min_eq_left (by omega),List.drop_one,List.tail_cons]
  congr 1
  omega
theorem cut_rear {w:V} {rest:List V} {m n:Nat} (h:rest.length = m + n):cutV (w :: rest) (some (1 + (m:Int))) none = rest.drop m:=by
  have e2:HT.sIx (w :: rest).length 0 (some (1 + (m:Int))) = min (1 + m) (w :: rest).length:=by
    have z:(1:Int) + (m:Int) = ((1 + m:Nat):Int):=by omega
    rw [z]; exact HT.sIx_nat _ _ _
  have l:(w :: rest).length = m + n + 1:=by rw [List.length_cons,h]
  unfold cutV
  rw [e2,HT.sIx_none,l,Nat.min_eq_left (by omega),Nat.add_comm 1 m,List.drop_succ_cons,List.take_of_length_le]
  rw [List.length_drop,h]
  omega
theorem not_whole1 {w:V} {rest:List V} {i:Int} {o:Option Int} (h:1≤i):¬ (HT.sIx (w :: rest).length 0 (some i) = 0∧HT.sIx (w :: rest).length (w :: rest).length o = (w :: rest).length):=by
  rintro ⟨h1,_⟩
  have e:HT.sIx (w :: rest).length 0 (some i) = min i.toNat (w :: rest).length:=by
    have z:=HT.sIx_nat (w :: rest).length 0 i.toNat
    have z2:((i.toNat:Nat):Int) = i:=by omega
    rw [z2] at z
    exact z
  rw [e,List.length_cons] at h1
  omega
end
end L2
namespace Sen
open PySem L2
section
variable {K:PySem.W.Frag}
def Sn.all:Sn→List Str
  | .c0 _=>[]
  | .mk x=>[x]
  | .nt s=>s.all
  | .b2 _ s t=>s.all ++ t.all
  | .q1 _ x s=>x :: s.all
theorem Sn.all_iff:∀ (s:Sn) (x:Str),x∈s.all↔x∈s.letters∨∃ t∈s.parts,x∈t.all
  | .c0 _,x=>by simp [Sn.all,Sn.letters,Sn.parts]
  | .mk y,x=>by simp [Sn.all,Sn.letters,Sn.parts]
  | .nt s,x=>by simp [Sn.all,Sn.letters,Sn.parts]
  | .b2 _ s t,x=>by simp [Sn.all,Sn.letters,Sn.parts]
  | .q1 _ y s,x=>by simp [Sn.all,Sn.letters,Sn.parts]
theorem Sn.inO_iff {os:List Str}:∀ (s:Sn),s.inO os↔∀ x∈s.all,x∈os
  | .c0 _=>by simp [Sn.all,Sn.inO]
  | .mk y=>by simp [Sn.all,Sn.inO]
  | .nt s=>by simp only [Sn.all,Sn.inO]; exact Sn.inO_iff s
  | .b2 _ s t=>by
    simp only [Sn.all,Sn.inO,List.mem_append]
    rw [Sn.inO_iff s,Sn.inO_iff t]
    exact ⟨fun h x hx=>hx.elim (h.1 x) (h.2 x),fun h=>⟨fun x hx=>h x (.inl hx),fun x hx=>h x (.inr hx)⟩⟩
  | .q1 _ y s=>by
    simp only [Sn.all,Sn.inO,List.mem_cons]
    rw [Sn.inO_iff s]
    exact ⟨fun h x hx=>hx.elim (fun e=>by rw [e]; exact h.1) (h.2 x),fun h=>⟨h y (.inl rfl),fun x hx=>h x (.inr hx)⟩⟩
theorem Sn.parts_le:∀ s:Sn,s.parts.length≤2
  | .c0 _=>by simp [Sn.parts]
  | .mk _=>by simp [Sn.parts]
  | .nt _=>by simp [Sn.parts]
  | .b2 _ _ _=>by simp [Sn.parts]
  | .q1 _ _ _=>by simp [Sn.parts]
theorem Sn.letters_le:∀ s:Sn,s.letters.length≤1
  | .c0 _=>by simp [Sn.letters]
  | .mk _=>by simp [Sn.letters]
  | .nt _=>by simp [Sn.letters]
  | .b2 _ _ _=>by simp [Sn.letters]
  | .q1 _ _ _=>by simp [Sn.letters]
def cnt (ss:List Sn):Nat:=(ss.map Sn.count).sum
theorem cnt_cons (s:Sn) (ss:List Sn):cnt (s :: ss) = s.count + cnt ss:=rfl
theorem cnt_app (ss ts:List Sn):cnt (ss ++ ts) = cnt ss + cnt ts:=by
  unfold cnt; rw [List.map_append,List.sum_append]
theorem cnt_parts:∀ ss:List Sn,cnt ss = ss.length + cnt (ss.flatMap Sn.parts)
  | []=>rfl
  | s :: ss=>by
    rw [cnt_cons,List.flatMap_cons,cnt_app,cnt_parts ss,Sn.count_parts s,List.length_cons]
    show 1 + cnt s.parts + _ = _
    omega
theorem cnt_len (ss:List Sn):ss.length≤cnt ss:=by rw [cnt_parts]; omega
theorem mem_level {ss:List Sn} {t:Sn}:t∈ss.flatMap Sn.parts↔∃ s∈ss,t∈s.parts:=List.mem_flatMap
inductive spIsMark (vs:List V) (H:Hp) (Q:VK) (E9:XK):Prop
  | mk (x:Str) (_:vs = [.str x]) (_:Q (.bl (decide (x∈letts))) H):spIsMark vs H Q E9
theorem mono_isMark:SpMono spIsMark:=fun vs H Q Q' E h ⟨x,e,q⟩=>⟨x,e,h _ _ q⟩
def ordB (os:List Str):Bool:=decide (0 < os.length) && (os.all (fun x=>decide (x∈letts)) && decide os.Nodup)
theorem ordB_of {os:List Str} (h:IsOrd os):ordB os = true:=by
  unfold ordB
  rw [decide_eq_true h.pos,decide_eq_true h.nd,List.all_eq_true.mpr fun x hx=>decide_eq_true (h.mem x hx)]
  rfl
inductive spIsOrder (K:PySem.W.Frag) (vs:List V) (H:Hp) (Q:VK) (E9:XK):Prop
  | mk (l:Addr) (os:List Str) (_:vs = [.ref l]) (_:SqL K H l (os.map V.str)) (_:os.length≤100) (_:∀ H',Same H H'→Q (.bl (ordB os)) H'):spIsOrder K vs H Q E9
def rowB (n:Nat) (ns:List Int):Bool:=decide (ns.length = n) && ns.all (fun i=>i == 0 || i == 1)
inductive spIsRow (K:PySem.W.Frag) (vs:List V) (H:Hp) (Q:VK) (E9:XK):Prop
  | mk (l r:Addr) (xs:List V) (ns:List Int) (_:vs = [.ref l,.ref r]) (_:SqL K H l xs) (_:SqL K H r (ns.map V.int)) (_:ns.length≤1000) (_:∀ H',Same H H'→Q (.bl (rowB xs.length ns)) H'):spIsRow K vs H Q E9
def tb_SHAPES:List (Str × Int × Int):=[("yes", 0,0),("no", 0,0),("mark", 1,0),("not", 0,1),("and", 0,2),("or", 0,2),("either", 0,2),("if", 0,2),("some", 1,1),("each", 1,1)]
theorem shape_in (s:Sn):(s.word,((s.letters.length:Nat):Int),((s.parts.length:Nat):Int))∈tb_SHAPES:=by
  cases s with
  | c0 y =>
    cases y
    · show ((Str.ofString "no", (0:Int),(0:Int)):Str × Int × Int)∈tb_SHAPES
      decide +kernel
    · show ((Str.ofString "yes", (0:Int),(0:Int)):Str × Int × Int)∈tb_SHAPES
      decide +kernel
  | mk x =>
    show ((Str.ofString "mark", (1:Int),(0:Int)):Str × Int × Int)∈tb_SHAPES
    decide +kernel
  | nt s =>
    show ((Str.ofString "not", (0:Int),(1:Int)):Str × Int × Int)∈tb_SHAPES
    decide +kernel
  | b2 o s t =>
    show ((w2 o,(0:Int),(2:Int)):Str × Int × Int)∈tb_SHAPES
    revert o
    decide +kernel
  | q1 o x s =>
    cases o
    · show ((Str.ofString "each", (1:Int),(1:Int)):Str × Int × Int)∈tb_SHAPES
      decide +kernel
    · show ((Str.ofString "some", (1:Int),(1:Int)):Str × Int × Int)∈tb_SHAPES
      decide +kernel
inductive spLettersOf (vs:List V) (H:Hp) (Q:VK) (E9:XK):Prop
  | mk (p:Addr) (x:Str) (m n:Nat) (rest:List V) (_:vs = [.ref p]) (_:H p = some (.tup (.str x :: rest))) (_:(x,(m:Int),(n:Int))∈tb_SHAPES) (_:rest.length = m + n) (_:∀ q,H q = none→Q (.ref q) (upd H q (.tup (rest.take m)))):spLettersOf vs H Q E9
inductive spPartsOf (vs:List V) (H:Hp) (Q:VK) (E9:XK):Prop
  | mk (p:Addr) (x:Str) (m n:Nat) (rest:List V) (_:vs = [.ref p]) (_:H p = some (.tup (.str x :: rest))) (_:(x,(m:Int),(n:Int))∈tb_SHAPES) (_:rest.length = m + n) (_:∀ q,H q = none→Q (.ref q) (upd H q (.tup (rest.drop m)))):spPartsOf vs H Q E9
theorem sen_cut {H:Hp} {s:Sn} {p:Addr} (h:IsS H s p):∃ qs:List Addr,H p = some (.tup (.str s.word :: (s.letters.map V.str ++ qs.map V.ref)))∧Paired (IsS H) s.parts qs ∧
    (s.letters.map V.str ++ qs.map V.ref).length = s.letters.length + s.parts.length∧(s.letters.map V.str ++ qs.map V.ref).take s.letters.length = s.letters.map V.str∧(s.letters.map V.str ++ qs.map V.ref).drop s.letters.length = qs.map V.ref:=by
  obtain ⟨qs,h1,h2⟩:=h.shape
  have l:=pd_len h2
  refine ⟨qs,h1,h2,by simp [l],?_,?_⟩
  · rw [List.take_append_of_le_length (by simp),List.take_of_length_le (by simp)]
  · rw [List.drop_append_of_le_length (by simp),List.drop_of_length_le (by simp)]
    rfl
inductive spPartsOfAll (K:PySem.W.Frag) (vs:List V) (H:Hp) (Q:VK) (E9:XK):Prop
  | mk (l:Addr) (ss:List Sn) (ps:List Addr) (_:vs = [.ref l]) (_:SqL K H l (ps.map V.ref)) (_:Paired (IsS H) ss ps) (_:ss.length≤400) (_:∀ (l':Addr) (H':Hp) (ps':List Addr),Same H H'→H l' = none→H' l' = some (.lst (ps'.map V.ref))→Paired (IsS H') (ss.flatMap Sn.parts) ps'→Q (.ref l') H'):spPartsOfAll K vs H Q E9
inductive spShaped (vs:List V) (H:Hp) (Q:VK) (E9:XK):Prop
  | mk (p:Addr) (s:Sn) (_:vs = [.ref p]) (_:IsS H s p) (_:(∀ x∈s.letters,x∈letts)) (_:∀ H',Same H H'→Q (.bl true) H'):spShaped vs H Q E9
theorem mono_shaped:SpMono spShaped:=fun vs H Q Q' E h ⟨p,s,e,h1,h2,q⟩=>⟨p,s,e,h1,h2,fun H' g=>h _ _ (q H' g)⟩
abbrev VC (sn:Sn) (zs:List Addr):List V:=V.str sn.word :: (sn.letters.map V.str ++ zs.map V.ref)
inductive spIsSen (vs:List V) (H:Hp) (Q:VK) (E9:XK):Prop
  | mk (p:Addr) (s:Sn) (_:vs = [.ref p]) (_:IsS H s p) (_:s.inO letts) (_:s.count≤200) (_:s.depth≤24) (_:∀ H',Same H H'→Q (.bl true) H'):spIsSen vs H Q E9
inductive spMustOrder (K:PySem.W.Frag) (vs:List V) (H:Hp) (Q:VK) (E9:XK):Prop
  | mk (l:Addr) (os:List Str) (_:vs = [.ref l]) (_:SqL K H l (os.map V.str)) (_:IsOrd os) (_:∀ H',Same H H'→Q .non H'):spMustOrder K vs H Q E9
inductive spMustSen (vs:List V) (H:Hp) (Q:VK) (E9:XK):Prop
  | mk (p:Addr) (s:Sn) (_:vs = [.ref p]) (_:IsS H s p) (_:s.inO letts) (_:s.count≤200) (_:s.depth≤24) (_:∀ H',Same H H'→Q .non H'):spMustSen vs H Q E9
inductive spMustRow (K:PySem.W.Frag) (vs:List V) (H:Hp) (Q:VK) (E9:XK):Prop
  | mk (l r:Addr) (xs:List V) (ns:List Int) (_:vs = [.ref l,.ref r]) (_:SqL K H l xs) (_:SqL K H r (ns.map V.int)) (_:ns.length≤1000) (_:rowB xs.length ns = true) (_:∀ H',Same H H'→Q .non H'):spMustRow K vs H Q E9
inductive spTuplesIn (vs:List V) (H:Hp) (Q:VK) (E9:XK):Prop
  | mk (p:Addr) (s:Sn) (_:vs = [.ref p]) (_:IsS H s p) (_:s.count≤400) (_:∀ (l:Addr) (H':Hp) (ts:List Sn) (ps:List Addr),Same H H'→H l = none→H' l = some (.lst (ps.map V.ref))→Paired (IsS H') ts ps→ts.length = s.count→(∀ x,(∃ t∈ts,x∈t.letters)↔x∈s.all)→Q (.ref l) H'):spTuplesIn vs H Q E9
inductive spLettersIn (vs:List V) (H:Hp) (Q:VK) (E9:XK):Prop
  | mk (p:Addr) (s:Sn) (_:vs = [.ref p]) (_:IsS H s p) (_:s.count≤400) (_:∀ (l:Addr) (H':Hp) (xs:List Str),Same H H'→H l = none→H' l = some (.lst (xs.map V.str))→(∀ x,x∈xs↔x∈s.all)→xs.length≤400→Q (.ref l) H'):spLettersIn vs H Q E9
inductive spMustMark (K:PySem.W.Frag) (vs:List V) (H:Hp) (Q:VK) (E9:XK):Prop
  | mk (l:Addr) (x:Str) (os:List Str) (_:vs = [.ref l,.str x]) (_:SqL K H l (os.map V.str)) (_:x∈os) (_:Q .non H):spMustMark K vs H Q E9
inductive spMustMarks (K:PySem.W.Frag) (vs:List V) (H:Hp) (Q:VK) (E9:XK):Prop
  | mk (l p:Addr) (os:List Str) (s:Sn) (_:vs = [.ref l,.ref p]) (_:SqL K H l (os.map V.str)) (_:IsS H s p) (_:s.count≤400) (_:s.inO os) (_:∀ H',Same H H'→Q .non H'):spMustMarks K vs H Q E9
end
end Sen
namespace L2
open PySem
section
variable {K:PySem.W.Frag} {a:Addr} {xs:List V} {σ:St} {js:List Nat} {te:TE} {H:Hp} {Qf:Addr→Hp→List V→Prop}
theorem lc_idxT (R:Nat→V→Prop) (hq:SqT K H a xs) (hz:xs.length≤sizeLine)
    (hs:∀ (i:Nat) x H',xs[i]? = some x→Same H H'→te (lcS σ js (some x)) H' fun v H3=>R i v∧Same H H3)
    (me:∀ σ H Q Q',(∀ v H1,Q v H1→Q' v H1)→te σ H Q→te σ H Q')
    (hd:∀ ys H' p,ys.length = xs.length→(∀ (j:Nat) v,ys[j]? = some v→R j v)→Same H H'→H' p = none→Qf p H' ys) :
    ∃ W:Nat→Nat→List V→Hp→Prop,(∃ m,W 0 m [] H)∧∀ i m ys H,W i m ys H →
      ((Itt K a).stop i H∧∀ p,H p = none→Qf p H ys) ∨
      ((Itt K a).go i H∧ys.length < sizeLine∧∀ x H',(Itt K a).yld i H x H'→tYes (lcS σ js (some x)) H' fun b H2 =>
        if b = true then te (lcS σ js (some x)) H2 fun v H3=>∃ m',m' < m∧W (i + 1) m' (ys ++ [v]) H3 else ∃ m',m' < m∧W (i + 1) m' ys H2):=by
  refine lc_tup (fun i ys H'=>Same H H'∧ys.length = i∧∀ (j:Nat) v,ys[j]? = some v→R j v) ⟨Same.refl _,rfl,fun j v h=>by simp at h⟩ hz ?_ ?_ (fun _ _ _ _ h q=>h _ _ q) me ?_
  · rintro i ys H' hi ⟨g,e,r⟩
    exact ⟨g.seqT hq,by omega⟩
  · rintro i x ys H' hx ⟨g,e,r⟩
    show te (lcS σ js (some x)) H' fun v H3=>Same H H3∧(ys ++ [v]).length = i + 1∧∀ (j:Nat) u,(ys ++ [v])[j]? = some u→R j u
    refine me _ _ _ _ (fun v H3 h3=>⟨h3.2,by rw [List.length_append,e]; rfl,fun j u hj=>?_⟩) (hs i x H' hx g)
    by_cases hlt:j < ys.length
    · rw [List.getElem?_append_left hlt] at hj
      exact r j u hj
    · rw [List.getElem?_append_right (by omega)] at hj
      have hj0:j - ys.length = 0:=by
        have:=(List.getElem?_eq_some_iff.mp hj).1
        rw [List.length_singleton] at this
        omega
      rw [hj0] at hj
      have ev:v = u:=Option.some.inj hj
      have ej:j = i:=by omega
      rw [← ev,ej]
      exact h3.1
  · rintro ys H' p ⟨g,e,r⟩ hp
    exact hd ys H' p e r g hp
theorem mono2 {sp:Sp} (m:SpMono sp):∀ σ H Q Q',(∀ v H1,Q v H1→Q' v H1)→tCall sp [] E0 (tCons (tVar 0) (tCons (tVar 1) tNil)) σ H Q→tCall sp [] E0 (tCons (tVar 0) (tCons (tVar 1) tNil)) σ H Q' :=
  fun σ H Q Q' h ⟨v,e,u,e',q⟩=>⟨v,e,u,e',m _ _ _ _ _ h q⟩
theorem ne_str {x y:Str} (h:x≠y):¬ decide (V.str x = V.str y) = true:=fun z=>h (by have:=of_decide_eq_true z; injection this)
theorem len1 {α:Type} {ys:List α} (h:ys.length = 1):∃ v,ys = [v]:=by
  match ys,h with
  | [v],_=>exact ⟨v,rfl⟩
theorem len2 {α:Type} {ys:List α} (h:ys.length = 2):∃ v u,ys = [v,u]:=by
  match ys,h with
  | [v,u],_=>exact ⟨v,u,rfl⟩
end
end L2
namespace Sen
open PySem L2
section
variable {K:PySem.W.Frag}
def ix (os:List Str) (x:Str):Nat:=os.findIdx (· == x)
theorem ix_spec:∀ {os:List Str} {x:Str},x∈os→(os.map V.str).findIdx? (fun z=>eqV z (.str x)) = some (ix os x)∧ix os x < os.length∧os[ix os x]? = some x
  | t :: r,x,h=>by
    unfold ix
    rw [List.map_cons,List.findIdx?_cons,List.findIdx_cons]
    show (if (t == x) = true then some 0 else _) = _∧_
    by_cases e:t = x
    · subst e
      simp
    · have hb:(t == x) = false:=by simpa using e
      have hr:x∈r:=by
        rcases List.mem_cons.mp h with z | z
        · exact absurd z.symm e
        · exact z
      obtain ⟨h1,h2,h3⟩:=ix_spec hr
      rw [hb,h1]
      unfold ix at h2 h3 ⊢
      refine ⟨rfl,?_,?_⟩
      · show (r.findIdx (· == x)) + 1 < (t :: r).length
        rw [List.length_cons]; omega
      · show (t :: r)[(r.findIdx (· == x)) + 1]? = some x
        rw [List.getElem?_cons_succ]; exact h3
theorem ix_inj {os:List Str} {x y:Str} (hx:x∈os) (hy:y∈os):ix os y = ix os x↔y = x:=by
  constructor
  · intro e
    have h1:=(ix_spec hx).2.2
    have h2:=(ix_spec hy).2.2
    rw [e,h1] at h2
    exact (Option.some.inj h2).symm
  · intro e; rw [e]
def envB (os:List Str) (b:Nat):Str→Bool:=fun x=>b.testBit (ix os x)
theorem val_put {os:List Str} {s:Sn} {x:Str} (hs:s.inO os) (hx:x∈os) (b:Nat) (v:Bool):s.val (fun y=>if y = x then v else envB os b y) = s.val (envB os (putBit b (ix os x) v)):=by
  refine Sn.val_congr s hs fun y hy=>?_
  show _ = (putBit b (ix os x) v).testBit (ix os y)
  rw [putBit_bit]
  by_cases e:y = x
  · rw [if_pos e,if_pos ((ix_inj hx hy).mpr e)]
  · rw [if_neg e,if_neg (fun z=>e ((ix_inj hx hy).mp z))]
    rfl
theorem putBit_self (b p:Nat):putBit b p (b.testBit p) = b:=by unfold putBit; rw [if_pos rfl]
theorem val_some {os:List Str} {s:Sn} {x:Str} (hs:s.inO os) (hx:x∈os) (b:Nat):(Sn.q1 true x s).val (envB os b) = (s.val (envB os b) || s.val (envB os (putBit b (ix os x) (!b.testBit (ix os x))))):=by
  show (s.val (fun y=>if y = x then true else envB os b y) || s.val (fun y=>if y = x then false else envB os b y)) = _
  rw [val_put hs hx,val_put hs hx]
  have z:=putBit_self b (ix os x)
  cases hb:b.testBit (ix os x)
  · rw [hb] at z; rw [z]; exact Bool.or_comm _ _
  · rw [hb] at z; rw [z]; rfl
theorem val_each {os:List Str} {s:Sn} {x:Str} (hs:s.inO os) (hx:x∈os) (b:Nat):(Sn.q1 false x s).val (envB os b) = (s.val (envB os b) && s.val (envB os (putBit b (ix os x) (!b.testBit (ix os x))))):=by
  show (s.val (fun y=>if y = x then true else envB os b y) && s.val (fun y=>if y = x then false else envB os b y)) = _
  rw [val_put hs hx,val_put hs hx]
  have z:=putBit_self b (ix os x)
  cases hb:b.testBit (ix os x)
  · rw [hb] at z; rw [z]; exact Bool.and_comm _ _
  · rw [hb] at z; rw [z]; rfl
def TabOf (os:List Str) (s:Sn) (N:Nat):Prop:=IsTab os.length N (fun b=>s.val (envB os b))
theorem w2_no:∀ o,w2 o≠Str.ofString "no" := by decide +kernel
theorem w2_yes:∀ o,w2 o≠Str.ofString "yes" := by decide +kernel
theorem w2_mark:∀ o,w2 o≠Str.ofString "mark" := by decide +kernel
theorem w2_not:∀ o,w2 o≠Str.ofString "not" := by decide +kernel
theorem w2_some:∀ o,w2 o≠Str.ofString "some" := by decide +kernel
theorem w2_each:∀ o,w2 o≠Str.ofString "each" := by decide +kernel
theorem fin4 (o:Fin 4):o = 0∨o = 1∨o = 2∨o = 3:=by
  match o with
  | 0=>exact .inl rfl
  | 1=>exact .inr (.inl rfl)
  | 2=>exact .inr (.inr (.inl rfl))
  | 3=>exact .inr (.inr (.inr rfl))
inductive spTwo (vs:List V) (H:Hp) (Q:VK) (E9:XK):Prop
  | mk (o:Fin 4) (N M n:Nat) (f g:Nat→Bool) (_:vs = [.str (w2 o),.int N,.int M,.int ((2 ^ 2 ^ n - 1:Nat):Int)]) (_:IsTab n N f) (_:IsTab n M g) (_:∀ R:Nat,IsTab n R (fun b=>Sn.op2 o (f b) (g b))→Q (.int R) H):spTwo vs H Q E9
inductive spTable (K:PySem.W.Frag) (d:Nat) (vs:List V) (H:Hp) (Q:VK) (E9:XK):Prop
  | mk (p l:Addr) (s:Sn) (os:List Str) (_:vs = [.ref p,.ref l]) (_:IsS H s p) (_:SqL K H l (os.map V.str)) (_:s.inO os) (_:os.length≤8) (_:s.depth≤d) (_:∀ (N:Nat) (H':Hp),Same H H'→TabOf os s N→Q (.int N) H'):spTable K d vs H Q E9
theorem mono_table (d:Nat):SpMono (spTable K d):=fun vs H Q Q' E h ⟨p,l,s,os,e,h1,h2,h3,h4,h5,q⟩=>⟨p,l,s,os,e,h1,h2,h3,h4,h5,fun N H' g z=>h _ _ (q N H' g z)⟩
theorem rowV_ints (r:List Bool):rowV r = (r.map fun b=>((b.toNat:Nat):Int)).map V.int:=by rw [List.map_map]; rfl
theorem rowB_bools (r:List Bool) {n:Nat} (h:r.length = n):rowB n (r.map fun b=>((b.toNat:Nat):Int)) = true:=by
  unfold rowB
  rw [List.length_map,decide_eq_true h,List.all_map,Bool.true_and,List.all_eq_true]
  intro b _
  cases b <;> rfl
inductive spWorth (K:PySem.W.Frag) (vs:List V) (H:Hp) (Q:VK) (E9:XK):Prop
  | mk (p l rl:Addr) (s:Sn) (os:List Str) (r:List Bool) (_:vs = [.ref p,.ref l,.ref rl]) (_:IsS H s p) (_:SqL K H l (os.map V.str)) (_:SqL K H rl (rowV r)) (_:IsOrd os) (_:s.inO os) (_:s.count≤200) (_:s.depth≤24) (_:r.length = os.length) (_:∀ H',Same H H'→Q (.int ((s.val (envB os (rowBits r))).toNat:Nat)) H'):spWorth K vs H Q E9
end
end Sen
namespace Sen
open PySem L2
section
variable {K:PySem.W.Frag}
inductive spLaw (K:PySem.W.Frag) (vs:List V) (H:Hp) (Q:VK) (E9:XK):Prop
  | mk (a:Addr) (ns:List Int) (_:vs = [.ref a]) (_:SqL K H a (ns.map V.int)) (_:ns.length≤63) (_:∀ H',Q (.bl true) H'):spLaw K vs H Q E9
end
end Sen
namespace L2
open PySem PySem.Spec PyProof.Rows
theorem ln_0 {α:Type} {us:List α} (h:us.length = 0):us = []:=List.length_eq_zero_iff.mp h
theorem ln_s {α:Type} {us:List α} {n:Nat} (h:us.length = n + 1):∃ a vs,us = a :: vs∧vs.length = n:=by
  cases us with
  | nil=>cases h
  | cons a vs=>exact ⟨a,vs,rfl,by simpa using h⟩
def fscB (N P:List Str) (sc:Scope):Bool:=(match sc.kind with | .function=>true | _=>false) && !sc.isCoroutine && !sc.isGenerator && decide N.Nodup && decide (N.take P.length = P) && P.all (fun x=>decide (sc.names.lookup x = some .local∨sc.names.lookup x = some .cell)) && sc.names.all (fun y=>decide (y.2≠.free))
theorem fsc {N P:List Str} {sc:Scope} (h:fscB N P sc = true):FnScope N P sc:=by
  unfold fscB at h
  simp only [Bool.and_eq_true,Bool.not_eq_true',decide_eq_true_eq,List.all_eq_true] at h
  obtain ⟨⟨⟨⟨⟨⟨h1,h2⟩,h3⟩,h4⟩,h5⟩,h6⟩,h7⟩:=h
  refine ⟨?_,h2,h3,h4,h5,h6,h7⟩
  revert h1
  cases sc.kind <;> simp
structure Df (K:PySem.W.Frag) (mg:Str→Option Value) (x:Str) (st:Stmt) (f:Addr) (d:FuncData) (ps:List Str):Prop where
  F:Fun K x x st f d
  b:Binds K d ps []
  m:mg x = some (.ref f)
structure Dm (K:PySem.W.Frag) (C:Addr) (x q:Str) (st:Stmt) (f:Addr) (d:FuncData) (ps:List Str):Prop where
  F:Fun K x q st f d
  b:Binds K d ps []
  e:Meth K C x f
section
variable {K:PySem.W.Frag} {h:Heap} {mg:Str→Option Value} {x q:Str} {st:Stmt} {f C:Addr} {oc:Value} {od an:Option Addr} {osl:Array (Option Value)} {kV doc pm cdv ct:Value} {ps:List Str}
theorem dfm (X:K.In h) (G:h.Ns mainGlobals mg) (n:PySem.W.nsIn K mainGlobals x = some (some (.ref f))) (l:K.lookup f = some ⟨oc,od,.func (PySem.W.fnOf x x (defArgs st) (defBody st) (defScope st) .none kV doc pm an cdv ct),osl⟩)
    (c:PySem.W.codeIn K cdv x = true) (k:PySem.W.keepIn K (.ref f) = true)
    (b:∀ (kV doc pm:Value) (an:Option Addr) (cdv ct:Value) (us:List Value),us.length = ps.length→bindArgs (PySem.W.fnOf x x (defArgs st) (defBody st) (defScope st) .none kV doc pm an cdv ct) ⟨us,[]⟩ = pure (ps.zip us)) :
    Df K mg x st f (PySem.W.fnOf x x (defArgs st) (defBody st) (defScope st) .none kV doc pm an cdv ct) ps:=⟨fun_mk l c k,(fun_mk l c k).binds b,PySem.W.mg_of X G n⟩
theorem dmm (n:PySem.W.findIn K (.ref C) x = some (some (.ref f))) (i:PySem.W.isFn K (.ref f) = true) (l:K.lookup f = some ⟨oc,od,.func (PySem.W.fnOf x q (defArgs st) (defBody st) (defScope st) .none kV doc pm an cdv ct),osl⟩)
    (c:PySem.W.codeIn K cdv q = true) (k:PySem.W.keepIn K (.ref f) = true)
    (b:∀ (kV doc pm:Value) (an:Option Addr) (cdv ct:Value) (us:List Value),us.length = ps.length→bindArgs (PySem.W.fnOf x q (defArgs st) (defBody st) (defScope st) .none kV doc pm an cdv ct) ⟨us,[]⟩ = pure (ps.zip us)) :
    Dm K C x q st f (PySem.W.fnOf x q (defArgs st) (defBody st) (defScope st) .none kV doc pm an cdv ct) ps:=⟨fun_mk l c k,(fun_mk l c k).binds b,⟨n,i,k⟩⟩
theorem sqT_all {p:Addr} {it:Array Value} {n:Nat} {od:Option Addr} {sl:Array (Option Value)} {xs:List V} (l:K.lookup p = some ⟨.type "tuple", od,.seq it n,sl⟩) (v:it.toList.map absV = xs.map some) (h:xs.length≤1000):∀ H,SqT K H p xs:=fun H=>sqT_K l v h
end
section
variable {X:Cx} {CX:CXT} {k:Nat} {f C:Addr} {fd:FuncData} {ps:List Str} {sp:Sp} {st:Stmt} {x q m:Str} {p pos apos:Pos} {e o:Expr} {es:List Expr} {t:TA} {ta:TE} {E:XK}
theorem pe_callD (F:FnOk X.prog X.w X.K X.mg X.base CX0 k f fd ps sp) (hr:Room k X.A) (D:Df X.K X.mg x st f fd ps) (ha:PA X (e :: es) t) (hg:Gl X x:=by rfl) (hdb:(x == ("__debug__" : Str)) = false:=by decide) (he:starEach (e :: es) X.env = (false,eval e X.env) :: starEach es X.env:=by rfl) (hpl:(backTo pos (starEach es X.env)).any (·.1) = false:=by rfl) :
    PE X (.Call (.Name x p) (e :: es) [] pos) (tCall sp [] E0 t):=pe_call F hr hg D.m D.F.2 D.b .nil pass0 ha hdb he hpl
theorem pe_callDX (hx:Passes CX X E) (F:FnOk X.prog X.w X.K X.mg X.base CX k f fd ps sp) (hr:Room k X.A) (D:Df X.K X.mg x st f fd ps) (ha:PA X (e :: es) t) (hg:Gl X x:=by rfl) (hdb:(x == ("__debug__" : Str)) = false:=by decide) (he:starEach (e :: es) X.env = (false,eval e X.env) :: starEach es X.env:=by rfl) (hpl:(backTo pos (starEach es X.env)).any (·.1) = false:=by rfl) :
    PE X (.Call (.Name x p) (e :: es) [] pos) (tCall sp [] E t):=pe_call F hr hg D.m D.F.2 D.b .nil hx ha hdb he hpl
theorem pe_methD {pl:Sem Bool} (he:PE X o ta) (c:Cls X.K C) (D:Dm X.K C m q st f fd ps) (F:FnOk X.prog X.w X.K X.mg X.base CX0 k f fd ps sp) (hr:Room k X.A) (ha:PA X (e :: es) t)
    (hst:starEach (e :: es) X.env = (false,eval e X.env) :: starEach es X.env:=by rfl) (hpl:(backTo pos (starEach es X.env)).any (·.1) = false:=by rfl)
    (ht:eval (.Call (.Attribute o m apos) (e :: es) [] pos) X.env = (do
      let ov ← eval o X.env
      standAt apos.atName
      let (f,first) ← holding [ov] (getMethod ov m pl)
      callWith pos f first (backTo pos (starEach (e :: es) X.env)) (backToKw pos (keywordEach [] X.env))):=by rfl) :
    PE X (.Call (.Attribute o m apos) (e :: es) [] pos) (tMeth C m sp [] E0 ta t):=pe_meth he c D.e F hr D.b .nil pass0 ha hst hpl ht
theorem pe_methDX (hx:Passes CX X E) {pl:Sem Bool} (he:PE X o ta) (c:Cls X.K C) (D:Dm X.K C m q st f fd ps) (F:FnOk X.prog X.w X.K X.mg X.base CX k f fd ps sp) (hr:Room k X.A) (ha:PA X (e :: es) t)
    (hst:starEach (e :: es) X.env = (false,eval e X.env) :: starEach es X.env:=by rfl) (hpl:(backTo pos (starEach es X.env)).any (·.1) = false:=by rfl)
    (ht:eval (.Call (.Attribute o m apos) (e :: es) [] pos) X.env = (do
      let ov ← eval o X.env
      standAt apos.atName
      let (f,first) ← holding [ov] (getMethod ov m pl)
      callWith pos f first (backTo pos (starEach (e :: es) X.env)) (backToKw pos (keywordEach [] X.env))):=by rfl) :
    PE X (.Call (.Attribute o m apos) (e :: es) [] pos) (tMeth C m sp [] E ta t):=pe_meth he c D.e F hr D.b .nil hx ha hst hpl ht
end
inductive Ent (K:PySem.W.Frag) (w:World):List DictEntry→List (Str × Int × Int)→List (Str × Value)→Prop
  | nil:Ent K w [] [] []
  | cons {k:Str} {tk:Tok} {p:Addr} {m n:Int} {od:Option Addr} {it:Array Value} {z:Nat} {sl:Array (Option Value)} {es:List DictEntry} {tb:List (Str × Int × Int)} {kvs:List (Str × Value)} (l:K.lookup p = some ⟨.type "tuple", od,.seq it z,sl⟩) (v:it.toList.map absV = [V.int m,V.int n].map some) (t:Ent K w es tb kvs) :
      Ent K w (⟨hashStr w k,.str k tk,.ref p⟩ :: es) ((k,m,n) :: tb) ((k,.ref p) :: kvs)
structure Shp (K:PySem.W.Frag) (P:Program) (w:World) (a:Addr) (kvs:List (Str × Value)) (tb:List (Str × Int × Int)):Prop where
  d:DicK K P w a kvs
  y:∀ k m n,(k,m,n)∈tb→∃ p,valueAt kvs k = some (.ref p)∧∀ H,SqT K H p [.int m,.int n]
  z:∀ k,(∀ e∈tb,e.1≠k)→valueAt kvs k = none
theorem Ent.keys {K:PySem.W.Frag} {w:World} {es:List DictEntry} {tb:List (Str × Int × Int)} {kvs:List (Str × Value)} (h:Ent K w es tb kvs):kvs.map (·.1) = tb.map (·.1):=by
  induction h with
  | nil=>rfl
  | cons _ _ _ ih=>rw [List.map_cons,List.map_cons,ih]
theorem shp_mk {K:PySem.W.Frag} {P:Program} {w:World} {a:Addr} {es:Array DictEntry} {ep:Nat} {kvs:List (Str × Value)} {tb:List (Str × Int × Int)} (l:K.lookup a = some ⟨.type "dict", none,.dict es ep,#[]⟩) (s:(a == sysModules) = false) (nd:decide (tb.map (·.1)).Nodup = true) (h:Ent K w es.toList tb kvs):Shp K P w a kvs tb:=by
  have nk:(kvs.map (·.1)).Nodup:=by rw [h.keys]; exact of_decide_eq_true nd
  obtain ⟨el,hel⟩:∃ el,es.toList = el:=⟨_,rfl⟩
  rw [hel] at h
  refine ⟨dicK_mk l hel s ?_ nk,?_,?_⟩
  · clear nd nk l s hel
    induction h with
    | nil=>exact dk_nil
    | cons _ _ _ ih=>exact dk_cons ih
  · clear nd l s hel
    induction h with
    | nil=>intro k m n hm; cases hm
    | @cons k0 tk p m0 n0 od it z sl es tb kvs l v t ih =>
      intro k m n hm
      rw [List.map_cons,List.nodup_cons] at nk
      rcases List.mem_cons.mp hm with e | e
      · cases e
        refine ⟨p,?_,fun H=>sqT_K l v (by show 2≤1000; decide)⟩
        simp [valueAt]
      · obtain ⟨q,hq,sq⟩:=ih nk.2 k m n e
        refine ⟨q,?_,sq⟩
        have ne:k0≠k:=fun z=>nk.1 (by rw [z,t.keys]; exact List.mem_map.mpr ⟨_,e,rfl⟩)
        simp [valueAt,ne] at hq ⊢
        exact hq
  · clear nd nk l s hel
    induction h with
    | nil=>intro k _; rfl
    | @cons k0 tk p m0 n0 od it z sl es tb kvs l v t ih =>
      intro k hk
      have ne:=hk (k0,m0,n0) (List.mem_cons_self ..)
      have:=ih k fun e he=>hk e (List.mem_cons_of_mem _ he)
      simp [valueAt] at this ⊢
      exact ⟨ne,this⟩
theorem ps_setA {X:Cx} {pos:Pos} (i:Nat) {x:Str} {e:Expr} {te:TE} {pos':Pos} (hN:X.N.Nodup) (he:PE X e te) (hi:X.N[i]? = some x:=by rfl) (hx:Loc X.env.scope x:=by exact Or.inl rfl) (hs:swapsWith e (some (.Name x pos')) pos.line X.env = pure false:=by rfl) (hf:X.fn x = true∨X.env.scope.names.lookup x = some .local:=by first | exact .inl rfl | exact .inr rfl | assumption) :
    PS X (.Assign [.Name x pos'] e pos) (tAsg te (gName i)):=ps_set hN hi hx he hs hf
def lcB (osc sc:Scope) (x:Str) (fv:List Str):Bool:=(match sc.kind with | .function=>true | _=>false) && sc.names.all (fun y=>decide (y.2≠.cell)) && sc.names.all (fun y=>decide (y.2 = .local→sc.names.lookup y.1 = some .local)) && decide (sc.names.lookup x = some .local) && sc.names.all (fun y=>decide (y.2 = .free→osc.names.lookup y.1 = some .cell∨osc.names.lookup y.1 = some .free)) && fv.all (fun y=>decide (sc.names.lookup y = some .free∧(osc.names.lookup y = some .cell∨osc.names.lookup y = some .free))) && decide (x :: fv).Nodup
theorem lco {osc sc:Scope} {x:Str} {fv:List Str} (h:lcB osc sc x fv = true):LcOk osc sc x fv:=by
  unfold lcB at h
  simp only [Bool.and_eq_true,decide_eq_true_eq,List.all_eq_true] at h
  obtain ⟨⟨⟨⟨⟨⟨h1,h2⟩,h3⟩,h4⟩,h5⟩,h6⟩,h7⟩:=h
  refine ⟨?_,h2,h3,h4,h5,h6,h7⟩
  revert h1
  cases sc.kind <;> simp
end L2
namespace L2
open PySem PySem.Spec PyProof.Rows
section
variable {κ:Type} [DecidableEq κ]
def valV (kvs:List (κ × V)) (k:κ):Option V:=(kvs.find? fun kv=>decide (kv.1 = k)).map (·.2)
def putK (kvs:List (κ × V)) (k:κ) (v:V):List (κ × V) :=
  if (kvs.any fun kv=>decide (kv.1 = k)) = true then kvs.map (fun kv=>if kv.1 = k then (kv.1,v) else kv) else kvs ++ [(k,v)]
theorem valV_pos {p:κ × V} {r:List (κ × V)} {k:κ} (e:p.1 = k):valV (p :: r) k = some p.2:=by simp [valV,List.find?_cons,e]
theorem valV_neg {p:κ × V} {r:List (κ × V)} {k:κ} (e:¬ p.1 = k):valV (p :: r) k = valV r k:=by simp [valV,List.find?_cons,e]
theorem valV_any (k:κ):∀ kvs:List (κ × V),(kvs.any fun kv=>decide (kv.1 = k)) = (valV kvs k).isSome
  | []=>rfl
  | p :: r=>by
    rw [List.any_cons]
    by_cases e:p.1 = k
    · simp only [valV_pos e,decide_eq_true e,Bool.true_or,Option.isSome_some]
    · rw [valV_neg e,decide_eq_false e,Bool.false_or]; exact valV_any k r
theorem valV_map (k j:κ) (y:V):∀ kvs:List (κ × V),valV (kvs.map fun kv=>if kv.1 = k then (kv.1,y) else kv) j = (valV kvs j).map fun x=>if j = k then y else x
  | []=>rfl
  | p :: r=>by
    have ih:=valV_map k j y r
    rw [List.map_cons]
    by_cases h:p.1 = k
    · rw [if_pos h]
      by_cases e:p.1 = j
      · rw [valV_pos (p:=(p.1,y)) e,valV_pos e,Option.map_some,if_pos (e.symm.trans h)]
      · rw [valV_neg (p:=(p.1,y)) e,valV_neg e,ih]
    · rw [if_neg h]
      by_cases e:p.1 = j
      · rw [valV_pos (p:=p) e,valV_pos e,Option.map_some,if_neg (fun z=>h (e.trans z))]
      · rw [valV_neg (p:=p) e,valV_neg e,ih]
theorem valV_snoc (k j:κ) (y:V):∀ kvs:List (κ × V),valV kvs k = none→valV (kvs ++ [(k,y)]) j = if j = k then some y else valV kvs j
  | [],_=>by
    by_cases e:k = j
    · rw [if_pos e.symm]; exact valV_pos (p:=(k,y)) e
    · rw [if_neg (fun z=>e z.symm)]; exact valV_neg (p:=(k,y)) e
  | p :: r,hn=>by
    rw [List.cons_append]
    have hk:¬ p.1 = k:=fun z=>by rw [valV_pos z] at hn; cases hn
    rw [valV_neg hk] at hn
    have ih:=valV_snoc k j y r hn
    by_cases e:p.1 = j
    · rw [valV_pos e,valV_pos e,if_neg (fun z=>hk (e.trans z))]
    · rw [valV_neg e,valV_neg e,ih]
theorem valV_put (kvs:List (κ × V)) (k j:κ) (y:V):valV (putK kvs k y) j = if j = k then some y else valV kvs j:=by
  unfold putK
  by_cases a:(kvs.any fun kv=>decide (kv.1 = k)) = true
  · rw [if_pos a,valV_map]
    rw [valV_any] at a
    by_cases e:j = k
    · obtain ⟨x,hx⟩:=Option.isSome_iff_exists.mp a
      rw [if_pos e,e,hx,Option.map_some,if_pos rfl]
    · rw [if_neg e]
      cases valV kvs j with
      | none=>rfl
      | some x=>rw [Option.map_some,if_neg e]
  · rw [if_neg a]
    refine valV_snoc k j y kvs ?_
    rw [valV_any] at a
    cases q:valV kvs k with
    | none=>rfl
    | some x=>rw [q] at a; exact (a rfl).elim
theorem length_putK (kvs:List (κ × V)) (k:κ) (v:V):(putK kvs k v).length≤kvs.length + 1:=by
  unfold putK
  split
  · rw [List.length_map]; omega
  · rw [List.length_append,List.length_cons,List.length_nil]; omega
theorem RelO.isSome_eq {o:Option V} {u:Option Value} (r:RelO o u):o.isSome = u.isSome:=by
  cases o with
  | none=>cases u with
    | none=>rfl
    | some _=>exact (show False from r).elim
  | some _=>cases u with
    | none=>exact (show False from r).elim
    | some _=>rfl
theorem KV.val {kvs:List (κ × V)} {vs:List (κ × Value)} (r:KV kvs vs) (k:κ):RelO (valV kvs k) (valueAt vs k):=by
  unfold KV at r
  induction r with
  | nil=>exact True.intro
  | @cons p q ps qs h t ih =>
    obtain ⟨h1,h2⟩:=h
    by_cases e:p.1 = k
    · have e':q.1 = k:=h1.symm.trans e
      have b:valueAt (q :: qs) k = some q.2:=by simp [valueAt,List.find?_cons,e']
      rw [valV_pos e,b]; exact h2
    · have e':¬ q.1 = k:=fun z=>e (h1.trans z)
      have b:valueAt (q :: qs) k = valueAt qs k:=by simp [valueAt,List.find?_cons,e']
      rw [valV_neg e,b]; exact ih
theorem KV.any {kvs:List (κ × V)} {vs:List (κ × Value)} (r:KV kvs vs) (k:κ):(kvs.any fun kv=>decide (kv.1 = k)) = vs.any fun kv=>decide (kv.1 = k):=by
  unfold KV at r
  induction r with
  | nil=>rfl
  | cons h t ih=>rw [List.any_cons,List.any_cons,ih,h.1]
theorem KV.repl {kvs:List (κ × V)} {vs:List (κ × Value)} (r:KV kvs vs) (k:κ) {y:V} {u:Value} (ry:RelV y u) :
    KV (kvs.map fun kv=>if kv.1 = k then (kv.1,y) else kv) (vs.map fun kv=>if kv.1 = k then (kv.1,u) else kv):=by
  unfold KV at r ⊢
  induction r with
  | nil=>exact .nil
  | @cons p q ps qs h t ih =>
    rw [List.map_cons,List.map_cons]
    refine .cons ?_ ih
    obtain ⟨h1,h2⟩:=h
    by_cases e:p.1 = k
    · rw [if_pos e,if_pos (h1.symm.trans e)]; exact ⟨h1,ry⟩
    · rw [if_neg e,if_neg (fun z=>e (h1.trans z))]; exact ⟨h1,h2⟩
theorem KV.put {kvs:List (κ × V)} {vs:List (κ × Value)} (r:KV kvs vs) (k:κ) {y:V} {u:Value} (ry:RelV y u):KV (putK kvs k y) (stored vs k u):=by
  unfold putK stored
  rw [r.any k]
  by_cases e:(vs.any fun kv=>decide (kv.1 = k)) = true
  · rw [if_pos e,if_pos e]; exact r.repl k ry
  · rw [if_neg e,if_neg e]; exact Paired.snoc r ⟨rfl,ry⟩
theorem KV.length {kvs:List (κ × V)} {vs:List (κ × Value)} (r:KV kvs vs):kvs.length = vs.length:=Paired.length r
end
theorem kV_is {P:Program} {w:World} {k:Key} {u:Value} (r:RelV (kV k) u):(mixKind P w).is k u = true:=by
  cases k with
  | inl i=>obtain ⟨t,e⟩:=(show ∃ t,u = Value.int i t from r); subst e; exact mixKind_int P w i t
  | inr x=>obtain ⟨t,e⟩:=(show ∃ t,u = Value.str x t from r); subst e; exact mixKind_str P w x t
theorem items_are {P:Program} {w:World}:∀ {ks:List Key} {us:List Value},Vals (ks.map kV) us→ItemsAre (mixKind P w) ks us
  | [],_,r=>by rw [List.map_nil] at r; cases r; exact .nil
  | k :: ks,_,r=>by
    rw [List.map_cons] at r
    cases r with
    | cons h t=>exact .cons (kV_is h) (items_are t)
abbrev KT (H:Hp):List (List Key × V)→List (List Key × Addr × Value)→Prop:=Paired fun p q=>p.1 = q.1∧H q.2.1 = some (.tup (p.1.map kV))∧RelV p.2 q.2.2
theorem KT.val {H:Hp} {kvs:List (List Key × V)} {xs:List (List Key × Addr × Value)} (r:KT H kvs xs) (k:List Key):RelO (valV kvs k) ((atKey xs k).map (·.2)):=by
  induction r with
  | nil=>exact True.intro
  | @cons p q ps qs h t ih =>
    obtain ⟨h1,_,h2⟩:=h
    by_cases e:p.1 = k
    · have e':q.1 = k:=h1.symm.trans e
      have b:atKey (q :: qs) k = some q.2:=by simp [atKey,List.find?_cons,e']
      rw [valV_pos e,b]; exact h2
    · have e':¬ q.1 = k:=fun z=>e (h1.trans z)
      have b:atKey (q :: qs) k = atKey qs k:=by simp [atKey,List.find?_cons,e']
      rw [valV_neg e,b]; exact ih
theorem KT.repl {H:Hp} {kvs:List (List Key × V)} {xs:List (List Key × Addr × Value)} (r:KT H kvs xs) (k:List Key) {y:V} {u:Value} (ry:RelV y u) :
    KT H (kvs.map fun kv=>if kv.1 = k then (kv.1,y) else kv) (xs.map (putAt k u)):=by
  induction r with
  | nil=>exact .nil
  | @cons p q ps qs h t ih =>
    rw [List.map_cons,List.map_cons]
    refine .cons ?_ ih
    obtain ⟨h1,h2,h3⟩:=h
    unfold putAt
    by_cases e:p.1 = k
    · rw [if_pos e,if_pos (h1.symm.trans e)]; exact ⟨h1,h2,ry⟩
    · rw [if_neg e,if_neg (fun z=>e (h1.trans z))]; exact ⟨h1,h2,h3⟩
theorem KT.put {H:Hp} {kvs:List (List Key × V)} {xs:List (List Key × Addr × Value)} (r:KT H kvs xs) (k:List Key) {b:Addr} {y:V} {u:Value} (hb:H b = some (.tup (k.map kV))) (ry:RelV y u) :
    KT H (putK kvs k y) (storedH xs k b u):=by
  have e:(kvs.any fun kv=>decide (kv.1 = k)) = (atKey xs k).isSome:=by
    rw [valV_any,(r.val k).isSome_eq,Option.isSome_map]
  unfold putK storedH
  rw [e]
  by_cases q:(atKey xs k).isSome = true
  · rw [if_pos q,if_pos q]; exact r.repl k ry
  · rw [if_neg q,if_neg q]; exact Paired.snoc r ⟨rfl,hb,ry⟩
theorem KT.keeps {H H':Hp} {kvs:List (List Key × V)} {xs:List (List Key × Addr × Value)} (r:KT H kvs xs) (ht:∀ b ys,H b = some (.tup ys)→H' b = some (.tup ys)):KT H' kvs xs :=
  Paired.mapP r fun _ _ z=>⟨z.1,ht _ _ z.2.1,z.2.2⟩
section
variable {P:Program} {w:World} {H:Hp} {h:Heap} {a:Addr}
theorem rd_of {u:HO} (ok:HOk P w H h) (e:Rd H a u):ObjOk P w H h a u:=e.ok ok
theorem dk_rd {kvs:List (Key × V)} (ok:HOk P w H h) (e:Rd H a (.dK kvs)):kvs.length≤sizeLine∧(a == sysModules) = false∧∃ vs,KV kvs vs∧h.DictOf (mixKind P w) a vs :=
  show ObjOk P w H h a (.dK kvs) from rd_of ok e
theorem dk_of {kvs:List (Key × V)} (ok:HOk P w H h) (e:H a = some (.dK kvs)):kvs.length≤sizeLine∧(a == sysModules) = false∧∃ vs,KV kvs vs∧h.DictOf (mixKind P w) a vs:=dk_rd ok (.inl e)
theorem key_of {ks:List Key} (ok:HOk P w H h) (e:H a = some (.tup (ks.map kV))):(tupleKind (mixKind P w)).is h ks a:=by
  obtain ⟨_,its,r,o,h1,h2,n,h3⟩:=(show ObjOk P w H h a (.tup (ks.map kV)) from ok a _ e)
  exact ⟨o,its.toArray,n,h1,h2,h3,by simpa using items_are r⟩
theorem dt_rd {kvs:List (List Key × V)} (ok:HOk P w H h) (e:Rd H a (.dT kvs)):kvs.length≤sizeLine∧(a == sysModules) = false ∧
    ∃ xs,KT H kvs xs∧h.DictOfH (tupleKind (mixKind P w)) a xs:=by
  obtain ⟨z,y,xs,r,o,es,ep,h1,h2,h3,h4,h5⟩:=(show ObjOk P w H h a (.dT kvs) from rd_of ok e)
  refine ⟨z,y,xs,r,o,es,ep,h1,h2,h3,h4,fun x hx=>?_,h5⟩
  have all:∀ {l:List (List Key × V)} {m:List (List Key × Addr × Value)},KT H l m→∀ x∈m,(tupleKind (mixKind P w)).is h x.1 x.2.1:=by
    intro l m q
    induction q with
    | nil=>intro x hx; exact nomatch hx
    | @cons p q ps qs hq t ih =>
      intro x hx
      rcases List.mem_cons.mp hx with e | hx
      · subst e
        exact key_of ok (by rw [← hq.1]; exact hq.2.1)
      · exact ih x hx
  exact all r x hx
theorem dt_of {kvs:List (List Key × V)} (ok:HOk P w H h) (e:H a = some (.dT kvs)):kvs.length≤sizeLine∧(a == sysModules) = false ∧
    ∃ xs,KT H kvs xs∧h.DictOfH (tupleKind (mixKind P w)) a xs:=dt_rd ok (.inl e)
end
def DGet (H:Hp) (a:Addr) (y:V) (r:Option V):Prop :=
  (∃ kvs k,Rd H a (.dK kvs)∧y = kV k∧r = valV kvs k)∨∃ kvs k b,Rd H a (.dT kvs)∧y = .ref b∧H b = some (.tup (k.map kV))∧r = valV kvs k
def DPut (H:Hp) (a:Addr) (y v:V) (H':Hp):Prop :=
  (∃ kvs k,H a = some (.dK kvs)∧y = kV k∧kvs.length < sizeLine∧H' = upd H a (.dK (putK kvs k v))) ∨
  ∃ kvs k b,H a = some (.dT kvs)∧y = .ref b∧H b = some (.tup (k.map kV))∧kvs.length < sizeLine∧H' = upd H a (.dT (putK kvs k v))
theorem DGet.k {H:Hp} {a:Addr} {kvs:List (Key × V)} {k:Key} (e:H a = some (.dK kvs)):DGet H a (kV k) (valV kvs k):=.inl ⟨kvs,k,.inl e,rfl,rfl⟩
theorem DPut.k {H:Hp} {a:Addr} {kvs:List (Key × V)} {k:Key} {v:V} (e:H a = some (.dK kvs)) (hl:kvs.length < sizeLine):DPut H a (kV k) v (upd H a (.dK (putK kvs k v))):=.inl ⟨kvs,k,e,rfl,hl,rfl⟩
section
variable {X:Cx} {pins:List (Addr × Obj)} {σ:St} {H:Hp} {s:Shared} {a:Addr} {y v:V} {u r:Value} {o:Option V} {A:Around} {E:Value→Shared→Prop}
theorem Inv.big (I:Inv X pins σ H s):sysModules < s.heap.objs.size:=by
  have h:mainGlobals < s.heap.objs.size:=(I.mod.glob.keeps I.bk).lt
  exact Nat.lt_trans (by decide) h
theorem d_getItem {Q:Value→Shared→Prop} (hu:A.units + 1 < cLine) (I:Inv X pins σ H s) (g:DGet H a y (some v)) (ry:RelV y u) (h:∀ w' s',Inv X pins σ H s'→RelV v w'→Q w' s') :
    wpAny (model X.prog X.w) A (getItem (.ref a) u) Q E s:=by
  rcases g with ⟨kvs,k,e,ey,l⟩ | ⟨kvs,k,b,e,ey,eb,l⟩
  · subst ey
    obtain ⟨z,hd,vs,rel,dd⟩:=dk_rd I.hok e
    obtain ⟨w',hw,rw'⟩:=RelO.some_of (v:=v) (o:=valueAt vs k) (by rw [l]; exact rel.val k)
    exact wpAny_getItem_of (kV_is ry) dd.mapOf hw (h w' _ (I.tok _) rw')
  · subst ey
    cases (show u = Value.ref b from ry)
    obtain ⟨z,hd,xs,rel,dd⟩:=dt_rd I.hok e
    obtain ⟨w',hw,rw'⟩:=RelO.some_of (v:=v) (o:=(atKey xs k).map (·.2)) (by rw [l]; exact rel.val k)
    obtain ⟨p,hp,hp2⟩:=Option.map_eq_some_iff.mp hw
    refine wpAny_getItem_heap (tupleKind_room_in1 hu) (key_of I.hok eb) dd hp ?_
    rw [hp2]
    exact h w' _ (I.tok _) rw'
theorem d_notIn {Q:Value→Shared→Prop} (hu:A.units + 1 < cLine) (I:Inv X pins σ H s) (g:DGet H a y o) (ry:RelV y u) (h:∀ s',Inv X pins σ H s'→Q (.bool (!o.isSome)) s') :
    wpAny (model X.prog X.w) A (compareOp .NotIn u (.ref a)) Q E s:=by
  rcases g with ⟨kvs,k,e,ey,l⟩ | ⟨kvs,k,b,e,ey,eb,l⟩
  · subst ey
    obtain ⟨z,hd,vs,rel,dd⟩:=dk_rd I.hok e
    refine wpAny_notIn_of (kV_is ry) hd dd.mapOf ?_
    rw [← (rel.val k).isSome_eq,← l]
    exact h _ (I.tok _)
  · subst ey
    cases (show u = Value.ref b from ry)
    obtain ⟨z,hd,xs,rel,dd⟩:=dt_rd I.hok e
    refine wpAny_notIn_heap (tupleKind_room_in1 hu) (key_of I.hok eb) hd dd ?_
    have q:=(rel.val k).isSome_eq
    rw [Option.isSome_map] at q
    rw [← q,← l]
    exact h _ (I.tok _)
theorem d_write {h':Heap} {t':Nat} {ob:HO} (I:Inv X pins σ H s) (mu:Mut (H a)) (hs:Heap.SameBut a s.heap h') (he:∃ q,h'.get? a = some q) (new:ObjOk X.prog X.w (upd H a ob) h' a ob) :
    Inv X pins σ (upd H a ob) { s with heap:=h',toks:=t' } :=
  I.write (x:=a) (e:=a) mu (.inl rfl) (fun b q hb z=>(hs.2 b hb).trans z) he new
theorem dk_new {P:Program} {w:World} {H':Hp} {h':Heap} {kvs:List (Key × V)} {vs:List (Key × Value)} (z:kvs.length≤sizeLine) (hd:(a == sysModules) = false) (rel:KV kvs vs) (dd:h'.DictOf (mixKind P w) a vs) :
    ObjOk P w H' h' a (.dK kvs):=⟨z,hd,vs,rel,dd⟩
theorem d_setItem {H':Hp} {Q:Unit→Shared→Prop} (hu:A.units + 1 < cLine) (I:Inv X pins σ H s) (g:DPut H a y v H') (ry:RelV y u) (rv:RelV v r) (h:∀ s',Inv X pins σ H' s'→Q () s') :
    wpAny (model X.prog X.w) A (setItem (.ref a) u r) Q E s:=by
  rcases g with ⟨kvs,k,e,ey,l,eH⟩ | ⟨kvs,k,b,e,ey,eb,l,eH⟩
  · subst ey eH
    obtain ⟨z,hd,vs,rel,dd⟩:=dk_of I.hok e
    have hz:vs.length≤sizeLine:=by rw [← rel.length]; exact z
    have hl:(putK kvs k v).length≤sizeLine:=by have:=length_putK kvs k v; omega
    refine wpAny_setItem_pairs (hsz:=hz) (kV_is ry) dd fun h' dd' hs=>h _ ?_
    have he:∃ q,h'.get? a = some q:=let ⟨q,_,_,hq,_⟩:=dd'; ⟨q,hq⟩
    exact d_write I (by rw [e]; exact True.intro) hs he (dk_new hl hd (rel.put k rv) dd')
  · subst ey eH
    cases (show u = Value.ref b from ry)
    obtain ⟨z,hd,xs,rel,dd⟩:=dt_of I.hok e
    have hz:xs.length≤sizeLine:=by rw [← Paired.length rel]; exact z
    have hl:(putK kvs k v).length≤sizeLine:=by have:=length_putK kvs k v; omega
    refine wpAny_setItem_heap (hsz:=hz) (tupleKind_room_in1 hu) (key_of I.hok eb) dd fun h' dd' hs=>h _ ?_
    obtain ⟨q,es,ep,hq,h2,h3,h4,_,h5⟩:=dd'
    refine d_write I (by rw [e]; exact True.intro) hs ⟨q,hq⟩ ⟨hl,hd,_,(rel.put k eb rv).keeps fun c ys ec=>?_,q,es,ep,hq,h2,h3,h4,h5⟩
    rw [upd_ne (ne_of ec e (fun z=>nomatch z))]
    exact ec
end
def NoSl (i:Expr):Prop:=∀ ov iv,subscripted i false ov iv = operate [ov,iv] (getItem ov iv)
theorem subD_of {prog:Program} {w:World} {A:Around} {E:Value→Shared→Prop} {s:Shared} {env:Env} {value slice:Expr} {pos:Pos} {T id:String} {Q:Value→Shared→Prop}
    (hl:typeLookup (.type T) "__getitem__" = pure (some (.builtin id))) (hs:NoSl slice)
    (h:wpAny (model prog w) A (eval value env) (fun o s₁=>wpAny (model prog w) A (eval slice env) (fun i s₂=>s₂.TypeIs o T∧wpAny (model prog w) A (getItem o i) Q E s₂) E s₁) E s) :
    wpAny (model prog w) A (eval (.Subscript value slice pos) env) Q E s:=by
  refine Subscript_ (wpAny_mono h (fun o s₁ h₁=>wpAny_mono h₁ (fun i s₂ h₂=>?_) fun _ _ x=>x) fun _ _ x=>x)
  obtain ⟨hT,h₂⟩:=h₂
  unfold subscriptTail
  refine wpAny_bind ?_
  rw [getitemInPython_of_ne hT.not_modules]
  refine wpAny_bind (wpAny_specialOf hT hl ?_)
  have fin:wpAny (model prog w) A (subscripted slice false o i) (fun r s₃=>wpAny (model prog w) A (letTemporaryGo value o r >>= fun _=>pure r) Q E s₃) E s₂:=by
    rw [hs o i]
    exact wpAny_operating (wpAny_mono h₂ (fun r s₃ h₃=>wpAny_bind (wpAny_letTemporaryGo (wpAny_pure h₃))) fun _ _ x=>x)
  first
    | exact wpAny_pure (wpAny_bind fin)
    | exact wpAny_bind (wpAny_pure (wpAny_bind fin))
    | exact wpAny_bind fin
theorem dict_typeIs {X:Cx} {pins:List (Addr × Obj)} {σ:St} {H:Hp} {s:Shared} {a:Addr} {y:V} {o:Option V} (I:Inv X pins σ H s) (g:DGet H a y o):s.TypeIs (.ref a) "dict" := by
  rcases g with ⟨kvs,k,e,_,_⟩ | ⟨kvs,k,b,e,_,_,_⟩
  · obtain ⟨_,_,vs,_,dd⟩:=dk_rd I.hok e
    exact dd.typeIs
  · obtain ⟨_,_,xs,_,dd⟩:=dt_rd I.hok e
    exact dd.typeIs
def tDGet (td ty:TE):TE:=fun σ H Q=>td σ H fun x H1=>ty σ H1 fun y H2=>∃ a v,x = .ref a∧DGet H2 a y (some v)∧Q v H2
def tDNotIn (ty td:TE):TE:=fun σ H Q=>ty σ H fun y H1=>td σ H1 fun x H2=>∃ a o,x = .ref a∧DGet H2 a y o∧Q (.bl (!o.isSome)) H2
def sDPut (td ty tv:TE):TS:=fun D σ H=>tv σ H fun v H1=>td σ H1 fun x H2=>ty σ H2 fun y H3=>∃ a H4,x = .ref a∧DPut H3 a y v H4∧D.nx σ H4
section
variable {X:Cx} {o i e value:Expr} {pos pos' tpos:Pos} {td ty tv:TE}
theorem pe_dget (hu:X.A.units + 1 < cLine) (ho:PE X o td) (hi:PE X i ty) (hs:NoSl i):PE X (.Subscript o i pos) (tDGet td ty):=by
  intro pins s σ H Q I h
  refine subD_of PySem.F.slot_dict_getitem.lookup hs (thn (ho pins s σ H _ I h) fun u s1 ⟨x,H1,I1,rx,q1⟩=>thn (hi pins s1 σ H1 _ I1 q1) fun iv s2 ⟨y,H2,I2,ry,a,v,ex,g,q2⟩=>?_)
  subst ex
  obtain rfl:u = Value.ref a:=rx
  exact ⟨dict_typeIs I2 g,d_getItem hu I2 g ry fun w' s3 I3 rw'=>⟨v,H2,I3,rw',q2⟩⟩
theorem pc_dnotin (hu:X.A.units + 1 < cLine) (hi:PE X i ty) (ho:PE X o td):PC X .NotIn i o (tDNotIn ty td):=by
  intro pins s σ H Q I h
  refine thn (hi pins s σ H _ I h) fun iv s1 ⟨y,H1,I1,ry,q1⟩=>thn (ho pins s1 σ H1 _ I1 q1) fun u s2 ⟨x,H2,I2,rx,a,ov,ex,g,q2⟩=>?_
  subst ex
  obtain rfl:u = Value.ref a:=rx
  exact d_notIn hu I2 g ry fun s3 I3=>⟨.bl (!ov.isSome),H2,I3,rfl,q2⟩
theorem ps_dput (hu:X.A.units + 1 < cLine) (ho:PE X o td) (hi:PE X i ty) (hv:PE X value tv) (hs:swapsWith value (some (.Subscript o i pos')) pos.line X.env = pure false) :
    PS X (.Assign [.Subscript o i pos'] value pos) (sDPut td ty tv):=by
  intro pins s σ H D I h
  refine wpAny_Assign_Subscript (thn (hv pins s σ H _ I h) fun r s1 ⟨v,H1,I1,rv,q1⟩=>thn (ho pins s1 σ H1 _ I1 q1) fun u s2 ⟨x,H2,I2,rx,q2⟩=>thn (hi pins s2 σ H2 _ I2 q2) fun iv s3 ⟨y,H3,I3,ry,a,H4,ex,g,q3⟩=>?_) hs
  subst ex
  obtain rfl:u = Value.ref a:=rx
  exact d_setItem hu I3 g ry rv fun s4 I4=>⟨σ,H4,I4,q3⟩
end
theorem dk_empty {P:Program} {w:World} {H:Hp} (h:Heap) (hb:sysModules < h.objs.size):ObjOk P w H (h.push { cls:=.type "dict", data:=.dict #[] }) h.objs.size (.dK []) :=
  ⟨Nat.zero_le _,beq_eq_false_iff_ne.mpr (Ne.symm (Nat.ne_of_lt hb)),[],.nil,Heap.DictOf.new h⟩
def tPairs:List (TE × TE)→St→Hp→(List (V × V)→Hp→Prop)→Prop
  | [],_,H,Q=>Q [] H
  | (tk,tv) :: r,σ,H,Q=>tk σ H fun x H1=>tv σ H1 fun y H2=>tPairs r σ H2 fun ps H3=>Q ((x,y) :: ps) H3
abbrev VV:List (V × V)→List (Value × Value)→Prop:=Paired fun p q=>RelV p.1 q.1∧RelV p.2 q.2
def PPs (X:Cx) (pos:Pos) (keys:List (Option Expr)) (values:List Expr) (trs:List (TE × TE)):Prop :=
  ∀ (pins:List (Addr × Obj)) (s:Shared) (σ:St) (H:Hp) (Q:List (V × V)→Hp→Prop),Inv X pins σ H s→tPairs trs σ H Q →
    wpAny (model X.prog X.w) X.A (evalPairs (pairTrees keys values X.env pos)) (fun vs s'=>∃ ps H',Inv X pins σ H' s'∧VV ps vs∧Q ps H') X.xe s
theorem pps_nil {X:Cx} {pos:Pos}:PPs X pos [] [] []:=fun pins s σ H Q I h=>pairTrees_nil_walk ⟨[],H,I,.nil,h⟩
theorem pps_cons {X:Cx} {pos:Pos} {k v:Expr} {ks:List (Option Expr)} {vs:List Expr} {tk tv:TE} {trs:List (TE × TE)} (hk:PE X k tk) (hv:PE X v tv) (hr:PPs X pos ks vs trs) :
    PPs X pos (some k :: ks) (v :: vs) ((tk,tv) :: trs):=fun pins s σ H Q I h =>
  pairTrees_cons_walk (thn (hk pins s σ H _ I h) fun u s1 ⟨x,H1,I1,rx,q1⟩=>thn (hv pins s1 σ H1 _ I1 q1) fun w2 s2 ⟨y,H2,I2,ry,q2⟩ =>
    thn (hr pins s2 σ H2 _ I2 q2) fun ws s3 ⟨ps,H3,I3,rel,q3⟩=>⟨(x,y) :: ps,H3,I3,.cons ⟨rx,ry⟩ rel,q3⟩)
def mergeK (kvs more:List (Key × V)):List (Key × V):=more.foldl (fun acc kv=>putK acc kv.1 kv.2) kvs
theorem KV.merge:∀ {more:List (Key × V)} {rs:List (Key × Value)} {kvs:List (Key × V)} {vs:List (Key × Value)},KV more rs→KV kvs vs→KV (mergeK kvs more) (merged vs rs):=by
  intro more rs kvs vs r
  unfold KV at r
  induction r generalizing kvs vs with
  | nil=>intro q; exact q
  | @cons p q ps qs h t ih =>
    intro r0
    have e:KV (putK kvs p.1 p.2) (stored vs q.1 q.2):=by
      have:=r0.put p.1 h.2
      rw [← h.1]; exact this
    exact ih e
theorem length_mergeK:∀ (more kvs:List (Key × V)),(mergeK kvs more).length≤kvs.length + more.length
  | [],kvs=>by show kvs.length≤kvs.length + 0; omega
  | p :: r,kvs=>by
    have h1:=length_mergeK r (putK kvs p.1 p.2)
    have h2:=length_putK kvs p.1 p.2
    show (mergeK (putK kvs p.1 p.2) r).length≤_
    rw [List.length_cons]; omega
theorem carries_of {P:Program} {w:World}:∀ {kvs:List (Key × V)} {ws:List (Value × Value)},VV (kvs.map fun kv=>(kV kv.1,kv.2)) ws→∃ rs,Carries (mixKind P w) ws rs∧KV kvs rs
  | [],_,r=>by rw [List.map_nil] at r; cases r; exact ⟨[],True.intro,.nil⟩
  | p :: kvs,_,r=>by
    rw [List.map_cons] at r
    cases r with
    | @cons a b as bs h t =>
      obtain ⟨rs,c,q⟩:=carries_of (P:=P) (w:=w) t
      obtain ⟨b1,b2⟩:=b
      exact ⟨(p.1,b2) :: rs,⟨kV_is h.1,rfl,c⟩,.cons ⟨rfl,h.2⟩ q⟩
def tDisp (trs:List (TE × TE)):TE:=fun σ H Q=>∀ p,H p = none→tPairs trs σ (upd H p (.dK [])) fun ps H2=>H2 p = some (.dK [])∧∃ kvs:List (Key × V),ps = kvs.map (fun kv=>(kV kv.1,kv.2))∧kvs.length≤15∧Q (.ref p) (upd H2 p (.dK (mergeK [] kvs)))
theorem pe_disp {X:Cx} {pos:Pos} {keys:List (Option Expr)} {values:List Expr} {trs:List (TE × TE)} (h:PPs X pos keys values trs) (hall:keys.all (·.isSome) = true) (hl:keys.length = values.length) (h0:keys≠[])
    (h15:keys.length≤15):PE X (.Dict keys values pos) (tDisp trs):=by
  intro pins s σ H Q I q
  have hn:=I.hok.fresh (Nat.le_refl s.heap.objs.size)
  have I1:=I.laid (a:=s.heap.objs.size) (o:=.dK []) (h':=s.heap.push { cls:=.type "dict", data:=.dict #[] }) (t':=s.toks) (fun _ _ q=>Heap.get?_push_of_some _ q) (Nat.le_refl _) (dk_empty s.heap I.big)
  refine wpAny_Dict_walk (knd:=mixKind X.prog X.w) hall hl h0 h15 (thn (h pins _ σ _ _ I1 (q _ hn)) fun ws s2 ⟨ps,H2,I2,rel,e,kvs,ep,lk,q2⟩=>?_)
  subst ep
  obtain ⟨rs,c,rk⟩:=carries_of (P:=X.prog) (w:=X.w) rel
  obtain ⟨z,hd,vs0,r0,dd⟩:=dk_of I2.hok e
  cases r0
  refine ⟨rs,c,dd,fun h' dd' hs=>⟨.ref s.heap.objs.size,_,?_,rfl,q2⟩⟩
  have hz:(mergeK [] kvs).length≤sizeLine:=by
    have h1:=length_mergeK kvs []
    rw [List.length_nil] at h1
    rw [sizeLine_eq]; omega
  have he:∃ q,h'.get? s.heap.objs.size = some q:=let ⟨q,_,_,hq,_⟩:=dd'; ⟨q,hq⟩
  exact d_write I2 (by rw [e]; exact True.intro) hs he (dk_new hz hd (rk.merge .nil) dd')
end L2
namespace L2
open PySem PySem.Spec PyProof.Rows
inductive EqD (K:PySem.W.Frag) (H:Hp):Nat→V→V→Bool→Prop
  | flat {n:Nat} {x y:V} (fx:flatV x = true) (fy:flatV y = true):EqD K H n x y (eqV x y)
  | tt {n:Nat} {p q:Addr} {xs ys:List V} {e:Nat→Bool} (hp:SqT K H p xs) (hq:SqT K H q ys) (h:∀ (j:Nat) x y,xs[j]? = some x→ys[j]? = some y→EqD K H n x y (e j)) :
      EqD K H (n + 1) (.ref p) (.ref q) ((List.range (min xs.length ys.length)).all e && xs.length == ys.length)
  | ll {n:Nat} {p q:Addr} {xs ys:List V} {e:Nat→Bool} (hp:SqL K H p xs) (hq:SqL K H q ys) (hl:xs.length = ys.length) (h:∀ (j:Nat) x y,xs[j]? = some x→ys[j]? = some y→EqD K H n x y (e j)) :
      EqD K H (n + 1) (.ref p) (.ref q) ((List.range xs.length).all e)
  | ln {n:Nat} {p q:Addr} {xs ys:List V} (hp:SqL K H p xs) (hq:SqL K H q ys) (hl:xs.length≠ys.length):EqD K H (n + 1) (.ref p) (.ref q) false
  | lt {n:Nat} {p q:Addr} {xs ys:List V} (hp:SqL K H p xs) (hq:SqT K H q ys):EqD K H (n + 1) (.ref p) (.ref q) false
  | tl {n:Nat} {p q:Addr} {xs ys:List V} (hp:SqT K H p xs) (hq:SqL K H q ys):EqD K H (n + 1) (.ref p) (.ref q) false
  | lf {n:Nat} {p:Addr} {xs:List V} {y:V} (hp:SqL K H p xs) (fy:flatV y = true):EqD K H (n + 1) (.ref p) y false
  | fl {n:Nat} {p:Addr} {xs:List V} {y:V} (hp:SqL K H p xs) (fy:flatV y = true):EqD K H (n + 1) y (.ref p) false
  | tf {n:Nat} {p:Addr} {xs:List V} {y:V} (hp:SqT K H p xs) (fy:flatV y = true):EqD K H (n + 1) (.ref p) y false
  | ft {n:Nat} {p:Addr} {xs:List V} {y:V} (hp:SqT K H p xs) (fy:flatV y = true):EqD K H (n + 1) y (.ref p) false
section
variable {X:Cx} {pins:List (Addr × Obj)} {σ:St} {H:Hp} {s:Shared}
theorem eqV_refl {x:V} (f:flatV x = true):eqV x x = true:=by
  cases x <;> first | rfl | (simp [eqV]; done) | exact absurd (show false = true from f) Bool.false_ne_true
theorem list_not_tuple (I:Inv X pins σ H s) {p:Addr} {xs ys:List V} (h:SqL X.K H p xs) (k:SqT X.K H p ys):False:=by
  obtain ⟨_,_,⟨o,n,e,c,_⟩,_⟩:=I.list h
  obtain ⟨_,_,⟨o',e',c',_⟩,_⟩:=I.tuple k
  rw [e] at e'
  cases e'
  rw [c] at c'
  injection c' with z
  exact absurd z (by decide)
theorem EqD.refl (I:Inv X pins σ H s) {n:Nat} {x y:V} {b:Bool} (h:EqD X.K H n x y b):x = y→b = true:=by
  induction h with
  | flat fx fy=>intro e; subst e; exact eqV_refl fx
  | tt hp hq h ih =>
    intro e
    cases e
    have ee:=I.tuple_inj hp hq
    subst ee
    rw [Nat.min_self,beq_self_eq_true,Bool.and_true,List.all_eq_true]
    intro j hj
    have hj':=List.mem_range.mp hj
    exact ih j _ _ (List.getElem?_eq_getElem hj') (List.getElem?_eq_getElem hj') rfl
  | ll hp hq hl h ih =>
    intro e
    cases e
    have ee:=I.list_inj hp hq
    subst ee
    rw [List.all_eq_true]
    intro j hj
    have hj':=List.mem_range.mp hj
    exact ih j _ _ (List.getElem?_eq_getElem hj') (List.getElem?_eq_getElem hj') rfl
  | ln hp hq hl =>
    intro e
    cases e
    exact absurd (congrArg List.length (I.list_inj hp hq)) hl
  | lt hp hq=>intro e; cases e; exact (list_not_tuple I hp hq).elim
  | tl hp hq=>intro e; cases e; exact (list_not_tuple I hq hp).elim
  | lf hp fy=>intro e; subst e; exact absurd (show false = true from fy) Bool.false_ne_true
  | fl hp fy=>intro e; subst e; exact absurd (show false = true from fy) Bool.false_ne_true
  | tf hp fy=>intro e; subst e; exact absurd (show false = true from fy) Bool.false_ne_true
  | ft hp fy=>intro e; subst e; exact absurd (show false = true from fy) Bool.false_ne_true
theorem flat_list {A:Around} {u:Value} {y:V} {p:Addr} {its:Array Value} (hl:s.heap.IsList p its) (fy:flatV y = true) (ry:RelV y u) (hu:A.units < cLine):SeqAt.RcAt A s (.ref p) u false∧SeqAt.EqAt A s (.ref p) u false∧SeqAt.RcAt A s u (.ref p) false∧SeqAt.EqAt A s u (.ref p) false∧SeqAt.RcNeAt A s (.ref p) u true∧SeqAt.RcNeAt A s u (.ref p) true:=by
  cases y with
  | non=>cases ry; exact ⟨.list_none hl hu,.list_none hl hu,.none_list hl hu,.none_list hl hu,.list_none hl hu,.none_list hl hu⟩
  | bl b=>cases ry; exact ⟨.list_bool b hl hu,.list_bool b hl hu,.bool_list b hl hu,.bool_list b hl hu,.list_bool b hl hu,.bool_list b hl hu⟩
  | int i=>obtain ⟨t,rfl⟩:=ry; exact ⟨.list_int i t hl hu,.list_int i t hl hu,.int_list i t hl hu,.int_list i t hl hu,.list_int i t hl hu,.int_list i t hl hu⟩
  | str i=>obtain ⟨t,rfl⟩:=ry; exact ⟨.list_str i t hl hu,.list_str i t hl hu,.str_list i t hl hu,.str_list i t hl hu,.list_str i t hl hu,.str_list i t hl hu⟩
  | _=>exact absurd (show false = true from fy) Bool.false_ne_true
theorem flat_tuple {A:Around} {u:Value} {y:V} {p:Addr} {its:Array Value} (hl:s.heap.IsTuple p its) (fy:flatV y = true) (ry:RelV y u) (hu:A.units < cLine):SeqAt.RcAt A s (.ref p) u false∧SeqAt.EqAt A s (.ref p) u false∧SeqAt.RcAt A s u (.ref p) false∧SeqAt.EqAt A s u (.ref p) false∧SeqAt.RcNeAt A s (.ref p) u true∧SeqAt.RcNeAt A s u (.ref p) true:=by
  cases y with
  | non=>cases ry; exact ⟨.tuple_none hl hu,.tuple_none hl hu,.none_tuple hl hu,.none_tuple hl hu,.tuple_none hl hu,.none_tuple hl hu⟩
  | bl b=>cases ry; exact ⟨.tuple_bool b hl hu,.tuple_bool b hl hu,.bool_tuple b hl hu,.bool_tuple b hl hu,.tuple_bool b hl hu,.bool_tuple b hl hu⟩
  | int i=>obtain ⟨t,rfl⟩:=ry; exact ⟨.tuple_int i t hl hu,.tuple_int i t hl hu,.int_tuple i t hl hu,.int_tuple i t hl hu,.tuple_int i t hl hu,.int_tuple i t hl hu⟩
  | str i=>obtain ⟨t,rfl⟩:=ry; exact ⟨.tuple_str i t hl hu,.tuple_str i t hl hu,.str_tuple i t hl hu,.str_tuple i t hl hu,.tuple_str i t hl hu,.str_tuple i t hl hu⟩
  | _=>exact absurd (show false = true from fy) Bool.false_ne_true
theorem item_at {xs:List V} {us:List Value} (r:Vals xs us) {j:Nat} (h:j < us.toArray.size):∃ x,xs[j]? = some x∧RelV x us.toArray[j]:=by
  have hl:=r.length
  have hj:j < xs.length:=by simp at h; omega
  obtain ⟨u,hu,ru⟩:=r.get (List.getElem?_eq_getElem hj)
  refine ⟨xs[j],List.getElem?_eq_getElem hj,?_⟩
  have e:us.toArray[j] = u:=by
    have:=(List.getElem?_eq_some_iff.mp hu).2
    simpa using this
  rw [e]; exact ru
theorem EqD.at {n:Nat} {x y:V} {b:Bool} (h:EqD X.K H n x y b) (I:Inv X pins σ H s):∀ {A:Around} {u v:Value},RelV x u→RelV y v→A.units + n < cLine→SeqAt.EqAt A s u v b:=by
  induction h with
  | flat fx fy=>intro A u v rx ry _; exact eqAt_V rx ry fx fy
  | @tt n p q xs ys e hp hq h ih =>
    intro A u v rx ry hu
    cases rx
    cases ry
    obtain ⟨us,r1,t1,_⟩:=I.tuple hp
    obtain ⟨ws,r2,t2,_⟩:=I.tuple hq
    have l1:=r1.length
    have l2:=r2.length
    by_cases hne:p = q
    · subst hne
      have z:=(EqD.tt hp hq h).refl I rfl
      rw [z]
      exact SeqAt.EqAt.same _
    · refine SeqAt.EqAt.of_refs hne ?_
      have z:=SeqAt.RcAt.tuples (A:=A) (e:=e) t1 t2 (by omega) fun j h1 h2=>by
        obtain ⟨x,hx,rx⟩:=item_at r1 h1
        obtain ⟨y,hy,ry⟩:=item_at r2 h2
        exact ih j x y hx hy rx ry (by show A.units + 1 + n < cLine; omega)
      rw [List.size_toArray,List.size_toArray,← l1,← l2] at z
      exact z
  | @ll n p q xs ys e hp hq hl h ih =>
    intro A u v rx ry hu
    cases rx
    cases ry
    obtain ⟨us,r1,t1,_⟩:=I.list hp
    obtain ⟨ws,r2,t2,_⟩:=I.list hq
    have l1:=r1.length
    have l2:=r2.length
    by_cases hne:p = q
    · subst hne
      have z:=(EqD.ll hp hq hl h).refl I rfl
      rw [z]
      exact SeqAt.EqAt.same _
    · refine SeqAt.EqAt.of_refs hne ?_
      have z:=SeqAt.RcAt.lists (A:=A) (e:=e) t1.isList t2.isList (by simp; omega) (by omega) fun j h1 h2=>by
        obtain ⟨x,hx,rx⟩:=item_at r1 h1
        obtain ⟨y,hy,ry⟩:=item_at r2 h2
        exact ih j x y hx hy rx ry (by show A.units + 1 + n < cLine; omega)
      rw [List.size_toArray,← l1] at z
      exact z
  | @ln n p q xs ys hp hq hl =>
    intro A u v rx ry hu
    cases rx
    cases ry
    obtain ⟨us,r1,t1,_⟩:=I.list hp
    obtain ⟨ws,r2,t2,_⟩:=I.list hq
    have l1:=r1.length
    have l2:=r2.length
    have hne:p≠q:=fun e=>by subst e; exact hl (congrArg List.length (I.list_inj hp hq))
    exact SeqAt.EqAt.of_refs hne (SeqAt.RcAt.lists_lengths t1.isList t2.isList (by simp; omega) (by omega))
  | lt hp hq =>
    intro A u v rx ry hu
    cases rx
    cases ry
    obtain ⟨us,r1,t1,_⟩:=I.list hp
    obtain ⟨ws,r2,t2,_⟩:=I.tuple hq
    exact SeqAt.EqAt.list_tuple t1.isList t2 (by omega)
  | tl hp hq =>
    intro A u v rx ry hu
    cases rx
    cases ry
    obtain ⟨us,r1,t1,_⟩:=I.tuple hp
    obtain ⟨ws,r2,t2,_⟩:=I.list hq
    exact SeqAt.EqAt.tuple_list t1 t2.isList (by omega)
  | lf hp fy =>
    intro A u v rx ry hu
    cases rx
    obtain ⟨us,r1,t1,_⟩:=I.list hp
    exact (flat_list t1.isList fy ry (by omega)).2.1
  | fl hp fy =>
    intro A u v rx ry hu
    cases ry
    obtain ⟨us,r1,t1,_⟩:=I.list hp
    exact (flat_list t1.isList fy rx (by omega)).2.2.2.1
  | tf hp fy =>
    intro A u v rx ry hu
    cases rx
    obtain ⟨us,r1,t1,_⟩:=I.tuple hp
    exact (flat_tuple t1 fy ry (by omega)).2.1
  | ft hp fy =>
    intro A u v rx ry hu
    cases ry
    obtain ⟨us,r1,t1,_⟩:=I.tuple hp
    exact (flat_tuple t1 fy rx (by omega)).2.2.2.1
theorem EqD.rc {n:Nat} {x y:V} {b:Bool} (h:EqD X.K H n x y b) (I:Inv X pins σ H s) (hn:¬ (flatV x = true∧flatV y = true)) {A:Around} {u v:Value} (rx:RelV x u) (ry:RelV y v) (hu:A.units + n < cLine):SeqAt.RcAt A s u v b∧SeqAt.RcNeAt A s u v (!b):=by
  cases h with
  | flat fx fy=>exact absurd ⟨fx,fy⟩ hn
  | @tt n p q xs ys e hp hq h =>
    cases rx
    cases ry
    obtain ⟨us,r1,t1,_⟩:=I.tuple hp
    obtain ⟨ws,r2,t2,_⟩:=I.tuple hq
    have l1:=r1.length
    have l2:=r2.length
    have he:∀ j (h1:j < us.toArray.size) (h2:j < ws.toArray.size),SeqAt.EqAt A.in1 s us.toArray[j] ws.toArray[j] (e j):=fun j h1 h2=>by
      obtain ⟨x,hx,rx⟩:=item_at r1 h1
      obtain ⟨y,hy,ry⟩:=item_at r2 h2
      exact (h j x y hx hy).at I rx ry (by show A.units + 1 + n < cLine; omega)
    have z:=SeqAt.RcAt.tuples (A:=A) (e:=e) t1 t2 (by omega) he
    have z2:=SeqAt.RcNeAt.tuples (A:=A) (e:=e) t1 t2 (by omega) he
    rw [List.size_toArray,List.size_toArray,← l1,← l2] at z z2
    exact ⟨z,z2⟩
  | @ll n p q xs ys e hp hq hl h =>
    cases rx
    cases ry
    obtain ⟨us,r1,t1,_⟩:=I.list hp
    obtain ⟨ws,r2,t2,_⟩:=I.list hq
    have l1:=r1.length
    have l2:=r2.length
    have he:∀ j (h1:j < us.toArray.size) (h2:j < ws.toArray.size),SeqAt.EqAt A.in1 s us.toArray[j] ws.toArray[j] (e j):=fun j h1 h2=>by
      obtain ⟨x,hx,rx⟩:=item_at r1 h1
      obtain ⟨y,hy,ry⟩:=item_at r2 h2
      exact (h j x y hx hy).at I rx ry (by show A.units + 1 + n < cLine; omega)
    have z:=SeqAt.RcAt.lists (A:=A) (e:=e) t1.isList t2.isList (by simp; omega) (by omega) he
    have z2:=SeqAt.RcNeAt.lists (A:=A) (e:=e) t1.isList t2.isList (by simp; omega) (by omega) he
    rw [List.size_toArray,← l1] at z z2
    exact ⟨z,z2⟩
  | @ln n p q xs ys hp hq hl =>
    cases rx
    cases ry
    obtain ⟨us,r1,t1,_⟩:=I.list hp
    obtain ⟨ws,r2,t2,_⟩:=I.list hq
    have l1:=r1.length
    have l2:=r2.length
    exact ⟨SeqAt.RcAt.lists_lengths t1.isList t2.isList (by simp; omega) (by omega),SeqAt.RcNeAt.lists_lengths t1.isList t2.isList (by simp; omega) (by omega)⟩
  | lt hp hq =>
    cases rx
    cases ry
    obtain ⟨us,r1,t1,_⟩:=I.list hp
    obtain ⟨ws,r2,t2,_⟩:=I.tuple hq
    exact ⟨SeqAt.RcAt.list_tuple t1.isList t2 (by omega),SeqAt.RcNeAt.list_tuple t1.isList t2 (by omega)⟩
  | tl hp hq =>
    cases rx
    cases ry
    obtain ⟨us,r1,t1,_⟩:=I.tuple hp
    obtain ⟨ws,r2,t2,_⟩:=I.list hq
    exact ⟨SeqAt.RcAt.tuple_list t1 t2.isList (by omega),SeqAt.RcNeAt.tuple_list t1 t2.isList (by omega)⟩
  | lf hp fy =>
    cases rx
    obtain ⟨us,r1,t1,_⟩:=I.list hp
    have z:=flat_list (A:=A) t1.isList fy ry (by omega)
    exact ⟨z.1,z.2.2.2.2.1⟩
  | fl hp fy =>
    cases ry
    obtain ⟨us,r1,t1,_⟩:=I.list hp
    have z:=flat_list (A:=A) t1.isList fy rx (by omega)
    exact ⟨z.2.2.1,z.2.2.2.2.2⟩
  | tf hp fy =>
    cases rx
    obtain ⟨us,r1,t1,_⟩:=I.tuple hp
    have z:=flat_tuple (A:=A) t1 fy ry (by omega)
    exact ⟨z.1,z.2.2.2.2.1⟩
  | ft hp fy =>
    cases ry
    obtain ⟨us,r1,t1,_⟩:=I.tuple hp
    have z:=flat_tuple (A:=A) t1 fy rx (by omega)
    exact ⟨z.2.2.1,z.2.2.2.2.2⟩
end
section
variable {X:Cx}
theorem op_eqD {K:PySem.W.Frag} (hK:X.K = K) (hu:X.A.units + 8 < cLine):OpR X (compareOp .Eq) (fun x y H Q=>∃ b,¬ (flatV x = true∧flatV y = true)∧EqD K H 8 x y b∧Q (.bl b) H):=by
  subst hK
  intro pins s σ H x y v u Q I rx ry h
  obtain ⟨b,hn,he,q⟩:=h
  exact (he.rc I hn rx ry hu).1 X.prog X.w X.xe _ ⟨.bl b,H,I,rfl,q⟩
theorem op_neD {K:PySem.W.Frag} (hK:X.K = K) (hu:X.A.units + 8 < cLine):OpR X (compareOp .NotEq) (fun x y H Q=>∃ b,¬ (flatV x = true∧flatV y = true)∧EqD K H 8 x y b∧Q (.bl (!b)) H):=by
  subst hK
  intro pins s σ H x y v u Q I rx ry h
  obtain ⟨b,hn,he,q⟩:=h
  exact (he.rc I hn rx ry hu).2 X.prog X.w X.xe _ ⟨.bl (!b),H,I,rfl,q⟩
theorem hu8 {A:Around} {k:Nat} (hr:Room k A):A.units + 8 < cLine:=by have:=hr.units; omega
theorem any_at {K:PySem.W.Frag} {H:Hp} {x:V} {n:Nat} {e:V→Bool}:∀ {xs:List V} {us:List Value},Vals xs us→(∀ y∈xs,EqD K H n y x (e y))→∃ f:Value→Bool,(∀ (i:Nat) y u,xs[i]? = some y→us[i]? = some u→f u = e y)∧us.any f = xs.any e:=by
  intro xs us r h
  refine ⟨fun u=>match absV u with | some y=>e y | none=>false,fun i y u hy hu=>?_,?_⟩
  · obtain ⟨u',hu',ru⟩:=r.get hy
    rw [hu] at hu'
    cases hu'
    show (match absV u with | some y=>e y | none=>false) = e y
    rw [ru.abs]
  · clear h
    induction r with
    | nil=>rfl
    | cons r t ih =>
      rw [List.any_cons,List.any_cons,ih]
      congr 1
      show (match absV _ with | some y=>e y | none=>false) = _
      rw [r.abs]
def rInD (K:PySem.W.Frag) (neg:Bool):R2:=fun x y H Q=>∃ (p:Addr) (xs:List V) (e:V→Bool),y = .ref p∧(SqL K H p xs∨SqT K H p xs)∧(∀ z∈xs,EqD K H 8 z x (e z))∧Q (.bl (if neg then !xs.any e else xs.any e)) H
theorem op_inD {K:PySem.W.Frag} (hK:X.K = K) (hu:X.A.units + 9 < cLine):OpR X (compareOp .In) (rInD K false):=by
  subst hK
  intro pins s σ H x y v u Q I rx ry h
  obtain ⟨p,xs,e,rfl,hq,he,q⟩:=h
  cases ry
  rcases hq with hq | hq
  · obtain ⟨us,r,pl,hz⟩:=I.list hq
    obtain ⟨f,f1,f2⟩:=any_at r he
    refine SeqAt.in_listAt f pl.isList (fun w hw=>?_) ⟨.bl _,H,I,rfl,?_⟩
    · have hw':w∈us:=by simpa using hw
      obtain ⟨i,hi,ew⟩:=List.getElem_of_mem hw'
      have hx:i < xs.length:=by rw [r.length]; exact hi
      have z:=f1 i xs[i] w (List.getElem?_eq_getElem hx) (by rw [List.getElem?_eq_getElem hi,ew])
      obtain ⟨w',hw2,rw'⟩:=r.get (List.getElem?_eq_getElem hx)
      rw [List.getElem?_eq_getElem hi,ew] at hw2
      cases hw2
      rw [z]
      exact (he _ (List.getElem_mem hx)).at I rw' rx (by show X.A.units + 1 + 8 < cLine; omega)
    · rw [show us.toArray.any f = us.any f by simp,f2]
      exact q
  · obtain ⟨us,r,pl,hz⟩:=I.tuple hq
    obtain ⟨f,f1,f2⟩:=any_at r he
    refine SeqAt.in_tupleAt f pl (fun w hw=>?_) ⟨.bl _,H,I,rfl,?_⟩
    · have hw':w∈us:=by simpa using hw
      obtain ⟨i,hi,ew⟩:=List.getElem_of_mem hw'
      have hx:i < xs.length:=by rw [r.length]; exact hi
      have z:=f1 i xs[i] w (List.getElem?_eq_getElem hx) (by rw [List.getElem?_eq_getElem hi,ew])
      obtain ⟨w',hw2,rw'⟩:=r.get (List.getElem?_eq_getElem hx)
      rw [List.getElem?_eq_getElem hi,ew] at hw2
      cases hw2
      rw [z]
      exact (he _ (List.getElem_mem hx)).at I rw' rx (by show X.A.units + 1 + 8 < cLine; omega)
    · rw [show us.toArray.any f = us.any f by simp,f2]
      exact q
end
end L2
namespace Bdd
abbrev Rm:=Option (Nat × Nat × Nat)
def lev (n:Nat) (rs:List Rm) (k:Nat):Nat:=match rs[k]? with
  | some (some (i,_,_))=>i
  | _=>n
structure Bk (n:Nat) (rs:List Rm):Prop where
  h0:rs[0]? = some none
  h1:rs[1]? = some none
  rm:∀ k,2≤k→k < rs.length→∃ i lo hi,rs[k]? = some (some (i,lo,hi))∧i < n∧lo < k∧hi < k∧lo≠hi∧i < lev n rs lo∧i < lev n rs hi
  uq:∀ (k l:Nat) (x:Nat × Nat × Nat),rs[k]? = some (some x)→rs[l]? = some (some x)→k = l
abbrev Row:=Nat→Bool
def put (r:Row) (i:Nat) (v:Bool):Row:=fun j=>if j = i then v else r j
def lead (rs:List Rm) (r:Row):Nat→Nat→Nat
  | 0,k=>k
  | f + 1,k=>match rs[k]? with
    | some (some (i,lo,hi))=>lead rs r f (if r i then hi else lo)
    | _=>k
theorem lead_fuel {n:Nat} {rs:List Rm} (B:Bk n rs) (r:Row):∀ (f g k:Nat),k≤f→k≤g→k < rs.length→lead rs r f k = lead rs r g k
  | 0,0,k,_,_,_=>rfl
  | 0,g + 1,k,h,_,_=>by
    have e:k = 0:=by omega
    subst e
    show 0 = lead rs r (g + 1) 0
    unfold lead
    rw [B.h0]
  | f + 1,0,k,_,h,_=>by
    have e:k = 0:=by omega
    subst e
    show lead rs r (f + 1) 0 = 0
    unfold lead
    rw [B.h0]
  | f + 1,g + 1,k,hf,hg,hk=>by
    by_cases h2:2≤k
    · obtain ⟨i,lo,hi,e,_,hlo,hhi,_⟩:=B.rm k h2 hk
      unfold lead
      rw [e]
      show lead rs r f (if r i then hi else lo) = lead rs r g (if r i then hi else lo)
      refine lead_fuel B r f g _ ?_ ?_ ?_ <;> (split <;> omega)
    · have:k = 0∨k = 1:=by omega
      rcases this with e | e <;> subst e <;> unfold lead
      · rw [B.h0]
      · rw [B.h1]
def yes (rs:List Rm) (k:Nat) (r:Row):Bool:=lead rs r k k == 1
section
variable {n:Nat} {rs:List Rm} (B:Bk n rs)
include B
theorem len2:2≤rs.length:=by
  have:=(List.getElem?_eq_some_iff.mp B.h1).1
  omega
theorem yes_no (r:Row):yes rs 0 r = false:=rfl
theorem yes_yes (r:Row):yes rs 1 r = true:=by
  unfold yes lead
  rw [B.h1]
  rfl
theorem lead_step {k i lo hi:Nat} (e:rs[k]? = some (some (i,lo,hi))) (r:Row):lead rs r k k = lead rs r (if r i then hi else lo) (if r i then hi else lo):=by
  have hk:=(List.getElem?_eq_some_iff.mp e).1
  have k2:2≤k:=by
    by_cases h:2≤k
    · exact h
    · exfalso
      have:k = 0∨k = 1:=by omega
      rcases this with z | z <;> subst z
      · rw [B.h0] at e; cases e
      · rw [B.h1] at e; cases e
  obtain ⟨i',lo',hi',e',_,hlo,hhi,_⟩:=B.rm k k2 hk
  rw [e] at e'
  cases e'
  obtain ⟨m,rfl⟩:∃ m,k = m + 1:=⟨k - 1,by omega⟩
  show (match rs[m + 1]? with | some (some (i,lo,hi))=>lead rs r m (if r i then hi else lo) | _=>m + 1) = _
  rw [e]
  show lead rs r m (if r i then hi else lo) = _
  refine lead_fuel B r _ _ _ ?_ (Nat.le_refl _) ?_ <;> (split <;> omega)
theorem yes_step {k i lo hi:Nat} (e:rs[k]? = some (some (i,lo,hi))) (r:Row):yes rs k r = if r i then yes rs hi r else yes rs lo r:=by
  unfold yes
  rw [lead_step B e r]
  split <;> rfl
theorem lev_of {k i lo hi:Nat} (e:rs[k]? = some (some (i,lo,hi))):lev n rs k = i:=by unfold lev; rw [e]
theorem lev_no:lev n rs 0 = n:=by unfold lev; rw [B.h0]
theorem lev_yes:lev n rs 1 = n:=by unfold lev; rw [B.h1]
theorem yes_congr:∀ (m k:Nat),k≤m→k < rs.length→∀ {r r':Row},(∀ i,lev n rs k≤i→i < n→r i = r' i)→yes rs k r = yes rs k r'
  | m,k,hm,hk,r,r',h=>by
    by_cases h2:2≤k
    · obtain ⟨i,lo,hi,e,hin,hlo,hhi,_,l1,l2⟩:=B.rm k h2 hk
      have lk:=lev_of B e
      rw [yes_step B e,yes_step B e,h i (by omega) hin]
      match m,hm with
      | 0,hm=>omega
      | m + 1,hm =>
        rw [yes_congr m hi (by omega) (by omega) fun j hj hjn=>h j (by omega) hjn,yes_congr m lo (by omega) (by omega) fun j hj hjn=>h j (by omega) hjn]
    · have:k = 0∨k = 1:=by omega
      rcases this with z | z <;> subst z
      · rfl
      · rw [yes_yes B,yes_yes B]
theorem yes_put {k i:Nat} (hk:k < rs.length) (h:i < lev n rs k) (r:Row) (v:Bool):yes rs k (put r i v) = yes rs k r:=by
  refine yes_congr B k k (Nat.le_refl _) hk fun j hj _=>?_
  unfold put
  rw [if_neg (by omega)]
theorem yes_lo {k i lo hi:Nat} (e:rs[k]? = some (some (i,lo,hi))) (hk:k < rs.length) (r:Row):yes rs k (put r i false) = yes rs lo r∧yes rs k (put r i true) = yes rs hi r:=by
  have k2:2≤k:=by
    by_cases h:2≤k
    · exact h
    · exfalso
      have:k = 0∨k = 1:=by omega
      rcases this with z | z <;> subst z
      · rw [B.h0] at e; cases e
      · rw [B.h1] at e; cases e
  obtain ⟨i',lo',hi',e',_,hlo,hhi,_,l1,l2⟩:=B.rm k k2 hk
  rw [e] at e'
  cases e'
  constructor
  · rw [yes_step B e]
    have z:put r i false i = false:=by unfold put; rw [if_pos rfl]
    rw [z,if_neg Bool.false_ne_true]
    exact yes_put B (by omega) l1 r false
  · rw [yes_step B e]
    have z:put r i true i = true:=by unfold put; rw [if_pos rfl]
    rw [z,if_pos rfl]
    exact yes_put B (by omega) l2 r true
theorem one_room:∀ (m k l:Nat),(k≤m∧l≤m)→k < rs.length→l < rs.length→(∀ r,yes rs k r = yes rs l r)→k = l
  | m,k,l,hm,hk,hl,h=>by
    by_cases k2:2≤k
    · obtain ⟨i,lo,hi,e,hin,hlo,hhi,hne,l1,l2⟩:=B.rm k k2 hk
      by_cases l2':2≤l
      · obtain ⟨j,lo',hi',e',hjn,hlo',hhi',hne',l1',l2''⟩:=B.rm l l2' hl
        match m,hm with
        | 0,hm=>omega
        | m + 1,hm =>
          rcases Nat.lt_trichotomy i j with q | q | q
          · exfalso
            refine hne (one_room m lo hi (by omega) (by omega) (by omega) fun r=>?_)
            have z:=yes_lo B e hk r
            rw [← z.1,← z.2,h,h,yes_put B hl (by rw [lev_of B e']; exact q),yes_put B hl (by rw [lev_of B e']; exact q)]
          · subst q
            have a1:lo = lo':=one_room m lo lo' (by omega) (by omega) (by omega) fun r=>by rw [← (yes_lo B e hk r).1,← (yes_lo B e' hl r).1,h]
            have a2:hi = hi':=one_room m hi hi' (by omega) (by omega) (by omega) fun r=>by rw [← (yes_lo B e hk r).2,← (yes_lo B e' hl r).2,h]
            subst a1 a2
            exact B.uq k l _ e e'
          · exfalso
            refine hne' (one_room m lo' hi' (by omega) (by omega) (by omega) fun r=>?_)
            have z:=yes_lo B e' hl r
            rw [← z.1,← z.2,← h,← h,yes_put B hk (by rw [lev_of B e]; exact q),yes_put B hk (by rw [lev_of B e]; exact q)]
      · exfalso
        match m,hm with
        | 0,hm=>omega
        | m + 1,hm =>
          have ll:lev n rs l = n:=by
            have:l = 0∨l = 1:=by omega
            rcases this with z | z <;> subst z
            · exact lev_no B
            · exact lev_yes B
          refine hne (one_room m lo hi (by omega) (by omega) (by omega) fun r=>?_)
          have z:=yes_lo B e hk r
          rw [← z.1,← z.2,h,h,yes_put B hl (by omega),yes_put B hl (by omega)]
    · by_cases l2':2≤l
      · exfalso
        obtain ⟨j,lo',hi',e',hjn,hlo',hhi',hne',l1',l2''⟩:=B.rm l l2' hl
        match m,hm with
        | 0,hm=>omega
        | m + 1,hm =>
          have ll:lev n rs k = n:=by
            have:k = 0∨k = 1:=by omega
            rcases this with z | z <;> subst z
            · exact lev_no B
            · exact lev_yes B
          refine hne' (one_room m lo' hi' (by omega) (by omega) (by omega) fun r=>?_)
          have z:=yes_lo B e' hl r
          rw [← z.1,← z.2,← h,← h,yes_put B hk (by omega),yes_put B hk (by omega)]
      · have a:k = 0∨k = 1:=by omega
        have b:l = 0∨l = 1:=by omega
        have z:=h fun _=>false
        rcases a with a | a <;> rcases b with b | b <;> subst a <;> subst b
        · rfl
        · rw [yes_no B,yes_yes B] at z; cases z
        · rw [yes_no B,yes_yes B] at z; cases z
        · rfl
end
theorem get_snoc {rs:List Rm} {x:Rm} {k:Nat} (h:k < rs.length):(rs ++ [x])[k]? = rs[k]?:=List.getElem?_append_left h
theorem lev_snoc {n:Nat} {rs:List Rm} {x:Rm} {k:Nat} (h:k < rs.length):lev n (rs ++ [x]) k = lev n rs k:=by
  unfold lev; rw [get_snoc h]
theorem Bk.snoc {n:Nat} {rs:List Rm} (B:Bk n rs) {i lo hi:Nat} (hin:i < n) (hlo:lo < rs.length) (hhi:hi < rs.length) (hne:lo≠hi) (l1:i < lev n rs lo) (l2:i < lev n rs hi) (new:some (i,lo,hi) ∉ rs):Bk n (rs ++ [some (i,lo,hi)]) where
  h0:=by rw [get_snoc (by have:=len2 B; omega)]; exact B.h0
  h1:=by rw [get_snoc (by have:=len2 B; omega)]; exact B.h1
  rm:=fun k h2 hk=>by
    rw [List.length_append,List.length_singleton] at hk
    by_cases hlt:k < rs.length
    · obtain ⟨i',lo',hi',e,a1,a2,a3,a4,a5,a6⟩:=B.rm k h2 hlt
      exact ⟨i',lo',hi',by rw [get_snoc hlt]; exact e,a1,a2,a3,a4,by rw [lev_snoc (by omega)]; exact a5,by rw [lev_snoc (by omega)]; exact a6⟩
    · have e:k = rs.length:=by omega
      subst e
      exact ⟨i,lo,hi,by simp,hin,hlo,hhi,hne,by rw [lev_snoc hlo]; exact l1,by rw [lev_snoc hhi]; exact l2⟩
  uq:=fun k l x hk hl=>by
    have lk:=(List.getElem?_eq_some_iff.mp hk).1
    have ll:=(List.getElem?_eq_some_iff.mp hl).1
    rw [List.length_append,List.length_singleton] at lk ll
    have last:∀ m,m = rs.length→(rs ++ [some (i,lo,hi)])[m]? = some (some x)→x = (i,lo,hi):=fun m hm h=>by
      subst hm
      simp at h
      exact h.symm
    by_cases h1:k < rs.length
    · by_cases h2:l < rs.length
      · rw [get_snoc h1] at hk
        rw [get_snoc h2] at hl
        exact B.uq k l x hk hl
      · exfalso
        have e:=last l (by omega) hl
        subst e
        rw [get_snoc h1] at hk
        exact new (List.mem_of_getElem? hk)
    · by_cases h2:l < rs.length
      · exfalso
        have e:=last k (by omega) hk
        subst e
        rw [get_snoc h2] at hl
        exact new (List.mem_of_getElem? hl)
      · omega
theorem lead_snoc {n:Nat} {rs:List Rm} (B:Bk n rs) {x:Rm} (r:Row):∀ (f k:Nat),k < rs.length→lead (rs ++ [x]) r f k = lead rs r f k
  | 0,_,_=>rfl
  | f + 1,k,hk=>by
    unfold lead
    rw [get_snoc hk]
    by_cases h2:2≤k
    · obtain ⟨i,lo,hi,e,_,hlo,hhi,_⟩:=B.rm k h2 hk
      rw [e]
      show lead (rs ++ [x]) r f (if r i then hi else lo) = lead rs r f (if r i then hi else lo)
      exact lead_snoc B r f _ (by split <;> omega)
    · have:k = 0∨k = 1:=by omega
      rcases this with z | z <;> subst z
      · rw [B.h0]
      · rw [B.h1]
theorem yes_snoc {n:Nat} {rs:List Rm} (B:Bk n rs) {x:Rm} {k:Nat} (hk:k < rs.length) (r:Row):yes (rs ++ [x]) k r = yes rs k r:=by
  unfold yes; rw [lead_snoc B r k k hk]
def Grown (rs rs':List Rm):Prop:=∃ xs,rs' = rs ++ xs
theorem Grown.refl (rs:List Rm):Grown rs rs:=⟨[],by simp⟩
theorem Grown.trans {a b c:List Rm} (h:Grown a b) (k:Grown b c):Grown a c:=by
  obtain ⟨x,rfl⟩:=h
  obtain ⟨y,rfl⟩:=k
  exact ⟨x ++ y,by rw [List.append_assoc]⟩
theorem Grown.len {a b:List Rm} (h:Grown a b):a.length≤b.length:=by
  obtain ⟨x,rfl⟩:=h
  rw [List.length_append]; omega
theorem Grown.get {a b:List Rm} (h:Grown a b) {k:Nat} (hk:k < a.length):b[k]? = a[k]?:=by
  obtain ⟨x,rfl⟩:=h
  exact List.getElem?_append_left hk
theorem Grown.snoc (rs:List Rm) (x:Rm):Grown rs (rs ++ [x]):=⟨[x],rfl⟩
theorem Grown.lev {n:Nat} {a b:List Rm} (h:Grown a b) {k:Nat} (hk:k < a.length):lev n b k = lev n a k:=by
  unfold Bdd.lev; rw [h.get hk]
theorem Grown.lead {n:Nat} {a b:List Rm} (B:Bk n a) (h:Grown a b) (r:Row):∀ (f k:Nat),k < a.length→lead b r f k = lead a r f k
  | 0,_,_=>rfl
  | f + 1,k,hk=>by
    unfold Bdd.lead
    rw [h.get hk]
    by_cases h2:2≤k
    · obtain ⟨i,lo,hi,e,_,hlo,hhi,_⟩:=B.rm k h2 hk
      rw [e]
      show Bdd.lead b r f (if r i then hi else lo) = Bdd.lead a r f (if r i then hi else lo)
      exact Grown.lead B h r f _ (by split <;> omega)
    · have:k = 0∨k = 1:=by omega
      rcases this with z | z <;> subst z
      · rw [B.h0]
      · rw [B.h1]
theorem Grown.yes {n:Nat} {a b:List Rm} (B:Bk n a) (h:Grown a b) {k:Nat} (hk:k < a.length) (r:Row):yes b k r = yes a k r:=by
  unfold Bdd.yes; rw [Grown.lead B h r k k hk]
end Bdd
namespace L2
theorem hu9 {A:PySem.Around} {k:Nat} (hr:Room k A):A.units + 9 < PySem.cLine:=by have:=hr.units; omega
end L2
namespace Sen
open PySem L2 Bdd
abbrev Foot:=Addr→Prop
def Away (F:Foot) (H H':Hp):Prop:=∀ x o,H x = some o→¬ F x→H' x = some o
def NewF (H:Hp) (F F':Foot):Prop:=∀ x,F' x→F x∨H x = none
def bookMeths:List Str:=["room", "size", "order", "enter", "worth_at", "below"]
structure BookLike (C:Addr) (B:Hp→Addr→List Str→List Rm→Foot→Prop):Prop where
  ins:∀ {H b os rs F},B H b os rs F→∃ dx fs,H b = some (.ins C dx fs)∧∀ m∈bookMeths,fs.lookup m = none
  frame:∀ {H H' b os rs F},B H b os rs F→(∀ x o,H x = some o→F x→H' x = some o)→Tups H H'→B H' b os rs F
  there:∀ {H b os rs F x},B H b os rs F→F x→H x≠none
  bk:∀ {H b os rs F},B H b os rs F→Bk os.length rs
  ord:∀ {H b os rs F},B H b os rs F→IsOrd os
theorem BookLike.same {C:Addr} {B:Hp→Addr→List Str→List Rm→Foot→Prop} (L:BookLike C B) {H H':Hp} {b:Addr} {os:List Str} {rs:List Rm} {F:Foot} (h:B H b os rs F) (g:Same H H'):B H' b os rs F :=
  L.frame h (fun x o e _=>g x o e) (Tups.of g)
def envR (os:List Str) (r:Row):Str→Bool:=fun x=>r (ix os x)
section
variable (B:Hp→Addr→List Str→List Rm→Foot→Prop) (K:PySem.W.Frag) (C:Addr)
inductive spBookInit (vs:List V) (H:Hp) (Q:VK) (E9:XK):Prop
  | mk (b dx l:Addr) (os:List Str) (_:vs = [.ref b,.ref l]) (_:H b = some (.ins C dx [])) (_:b≠dx) (_:SqL K H l (os.map V.str)) (_:IsOrd os) (_:∀ (H':Hp) (F:Foot),(∀ x o,H x = some o→x≠b→H' x = some o)→B H' b os [none,none] F→(∀ x,F x→x = b∨x = dx∨H x = none)→Q .non H'):spBookInit vs H Q E9
inductive spBookSize (vs:List V) (H:Hp) (Q:VK) (E9:XK):Prop
  | mk (b:Addr) (os:List Str) (rs:List Rm) (F:Foot) (_:vs = [.ref b]) (_:B H b os rs F) (_:∀ H',Same H H'→Q (.int (rs.length:Nat)) H'):spBookSize vs H Q E9
def Grow (b:Addr) (os:List Str) (H:Hp) (rs:List Rm) (F:Foot) (n:Nat) (f:Row→Bool) (Q:VK):Prop:=∀ (k:Nat) (rs':List Rm) (F':Foot) (H':Hp),Away F H H'→Tups H H'→B H' b os rs' F'→NewF H F F'→Grown rs rs'→k < rs'.length→(∀ r,yes rs' k r = f r)→rs'.length≤rs.length + n→Q (.int (k:Nat)) H'
inductive spBookEnter (vs:List V) (H:Hp) (Q:VK) (E9:XK):Prop
  | mk (b p:Addr) (os:List Str) (rs:List Rm) (F:Foot) (s:Sn) (_:vs = [.ref b,.ref p]) (_:B H b os rs F) (_:rs.length≤8000000) (_:IsS H s p) (_:s.inO os) (_:s.count≤200) (_:s.depth≤24) (_:Grow B b os H rs F 200000 (fun r=>s.val (envR os r)) Q):spBookEnter vs H Q E9
end
end Sen
namespace L2
open PySem PySem.Spec PyProof.Rows
theorem bt_sorted:bootBuiltins "sorted" = some (.builtin "sorted"):=by decide +kernel
end L2
namespace Sen
open PySem L2 Bdd
section
variable (B:Hp→Addr→List Str→List Rm→Foot→Prop)
structure Led (H0:Hp) (b:Addr) (os:List Str) (n:Nat) (H:Hp) (rs:List Rm) (F:Foot):Prop where
  same:Same H0 H
  away:∀ x,F x→H0 x = none
  bk:B H b os rs F
  len:rs.length≤n
end
section
variable {B:Hp→Addr→List Str→List Rm→Foot→Prop} {C:Addr} {H0:Hp} {b:Addr} {os:List Str} {n:Nat} {H:Hp} {rs:List Rm} {F:Foot}
theorem Led.grow (h:Led B H0 b os n H rs F) {m:Nat} {H':Hp} {rs':List Rm} {F':Foot} (aw:Away F H H') (hB:B H' b os rs' F') (nf:NewF H F F') (hl:rs'.length≤rs.length + m):Led B H0 b os (n + m) H' rs' F' :=
  ⟨fun x o e=>aw x o (h.same _ _ e) fun z=>(by have:=h.away x z; rw [this] at e; cases e),fun x hx=>(nf x hx).elim (h.away x) (fun z=>h.same.free z),hB,Nat.le_trans hl (Nat.add_le_add_right h.len _)⟩
end
end Sen
namespace Bdd
open Sen
def rowN (b:Nat):Row:=fun i=>b.testBit i
def bits (r:Row):Nat→Nat
  | 0=>0
  | n + 1=>if r n then bits r n + 2 ^ n else bits r n
theorem bits_lt (r:Row):∀ n,bits r n < 2 ^ n
  | 0=>Nat.zero_lt_one
  | n + 1=>by
    have ih:=bits_lt r n
    unfold bits
    rw [Nat.pow_succ]
    split <;> omega
theorem bits_bit (r:Row):∀ {n i:Nat},i < n→(bits r n).testBit i = r i
  | 0,i,h=>by omega
  | n + 1,i,h=>by
    have lt:=bits_lt r n
    have z:(bits r n).testBit n = false:=Nat.testBit_lt_two_pow lt
    unfold bits
    by_cases e:i = n
    · subst e
      cases hr:r i
      · rw [if_neg Bool.false_ne_true]; exact z
      · rw [if_pos rfl,tb_add_same,z]; rfl
    · have hi:i < n:=by omega
      split
      · rw [tb_add_lt hi]; exact bits_bit r hi
      · exact bits_bit r hi
theorem eq_bits {n a b:Nat} (ha:a < 2 ^ n) (hb:b < 2 ^ n) (h:∀ i,i < n→a.testBit i = b.testBit i):a = b :=
  Nat.eq_of_testBit_eq fun i=>by
    by_cases hi:i < n
    · exact h i hi
    · have:2 ^ n≤2 ^ i:=Nat.pow_le_pow_right (by decide) (by omega)
      rw [Nat.testBit_lt_two_pow (by omega),Nat.testBit_lt_two_pow (by omega)]
theorem bits_put {r:Row} {n i:Nat} (hi:i < n) (v:Bool):bits (put r i v) n = putBit (bits r n) i v:=by
  refine eq_bits (bits_lt _ _) (putBit_lt (bits_lt _ _) hi) fun j hj=>?_
  rw [bits_bit _ hj,putBit_bit,bits_bit _ hj]
  rfl
theorem bits_rowN {n b:Nat} (h:b < 2 ^ n):bits (rowN b) n = b:=eq_bits (bits_lt _ _) h fun i hi=>by rw [bits_bit _ hi]; rfl
theorem yes_bits {n:Nat} {rs:List Rm} (B:Bk n rs) {k:Nat} (hk:k < rs.length) (r:Row):yes rs k (rowN (bits r n)) = yes rs k r :=
  yes_congr B k k (Nat.le_refl _) hk fun i _ hi=>bits_bit r hi
theorem tab_inj {n N M:Nat} {f g:Nat→Bool} (h:IsTab n N f) (k:IsTab n M g) (e:∀ b,b < 2 ^ n→f b = g b):N = M :=
  Nat.eq_of_testBit_eq fun i=>by
    rw [h i,k i]
    by_cases hi:i < 2 ^ n
    · rw [e i hi]
    · rw [decide_eq_false hi]; rfl
theorem tab_val {n N:Nat} {f:Nat→Bool} (h:IsTab n N f) {b:Nat} (hb:b < 2 ^ n):N.testBit b = f b:=by rw [h b,decide_eq_true hb]; rfl
def Free (n:Nat) (f:Nat→Bool) (p:Nat):Prop:=∀ b,b < 2 ^ n→∀ v,f (putBit b p v) = f b
theorem putBit_self (b p:Nat):putBit b p (b.testBit p) = b:=by unfold putBit; rw [if_pos rfl]
theorem Free.of_flip {n p:Nat} {f:Nat→Bool} (h:∀ b,b < 2 ^ n→f (putBit b p (!b.testBit p)) = f b):Free n f p:=fun b hb v=>by
  by_cases e:v = b.testBit p
  · rw [e,putBit_self]
  · have:v = !b.testBit p:=by cases v <;> cases hh:b.testBit p <;> simp_all
    rw [this]; exact h b hb
theorem const_of_free {n:Nat} {f:Nat→Bool} (h:∀ p,p < n→Free n f p):∀ b,b < 2 ^ n→f b = f 0:=by
  have key:∀ m b,m≤n→b < 2 ^ n→(∀ i,m≤i→i < n→b.testBit i = false)→f b = f 0:=by
    intro m
    induction m with
    | zero =>
      intro b _ hb hz
      have:b = 0:=eq_bits hb (Nat.two_pow_pos n) fun i hi=>by rw [hz i (Nat.zero_le _) hi,Nat.zero_testBit]
      rw [this]
    | succ m ih =>
      intro b hm hb hz
      rw [← h m (by omega) b hb false]
      refine ih _ (by omega) (putBit_lt hb (by omega)) fun i hi hin=>?_
      rw [putBit_bit]
      by_cases e:i = m
      · rw [if_pos e]
      · rw [if_neg e]; exact hz i (by omega) hin
  exact fun b hb=>key n b (Nat.le_refl _) hb fun i hi hin=>by omega
theorem lev_gt {n:Nat} {rs:List Rm} (B:Bk n rs) {k p:Nat} (hk:k < rs.length) (hp:p < n) (h:∀ i,i≤p→∀ r v,yes rs k (put r i v) = yes rs k r):p < lev n rs k:=by
  by_cases k2:2≤k
  · obtain ⟨i,lo,hi,e,hin,hlo,hhi,hne,l1,l2⟩:=B.rm k k2 hk
    rw [lev_of B e]
    by_cases hip:i≤p
    · exfalso
      refine hne (one_room B (max lo hi) lo hi ⟨Nat.le_max_left _ _,Nat.le_max_right _ _⟩ (by omega) (by omega) fun r=>?_)
      have z:=yes_lo B e hk r
      rw [← z.1,← z.2,h i hip,h i hip]
    · omega
  · have:k = 0∨k = 1:=by omega
    rcases this with z | z <;> subst z
    · rw [lev_no B]; exact hp
    · rw [lev_yes B]; exact hp
theorem room_new {n m p k0 k1:Nat} {rs:List Rm} {f:Nat→Bool} (B:Bk n rs) (hp:p < n) (m0:k0 < rs.length) (m1:k1 < rs.length)
    (y0:∀ r,yes rs k0 r = f (putBit (bits r n) p false)) (y1:∀ r,yes rs k1 r = f (putBit (bits r n) p true)) (fr:∀ i,i < p→Free n f i)
    (dep:∃ b,b < 2 ^ n∧f (putBit b p false)≠f (putBit b p true)) (old:∀ j,j < m→¬ ∀ r,yes rs j r = f (bits r n)) (hl:∀ j,m≤j→j < rs.length→p < lev n rs j) :
    Bk n (rs ++ [some (p,k0,k1)])∧∀ r,yes (rs ++ [some (p,k0,k1)]) rs.length r = f (bits r n):=by
  have pb:∀ (r:Row) v,putBit (bits r n) p v < 2 ^ n:=fun r v=>putBit_lt (bits_lt _ _) hp
  have low:∀ (k:Nat) (w:Bool),k < rs.length→(∀ r,yes rs k r = f (putBit (bits r n) p w))→p < lev n rs k:=fun k w hk hy=>lev_gt B hk hp fun i hi r v=>by
    rw [hy,hy,bits_put (by omega)]
    by_cases e:i = p
    · subst e
      congr 1
      refine eq_bits (putBit_lt (putBit_lt (bits_lt _ _) hp) hp) (pb r w) fun j _=>?_
      rw [putBit_bit,putBit_bit,putBit_bit]
      by_cases e:j = i
      · rw [if_pos e,if_pos e]
      · rw [if_neg e,if_neg e,if_neg e]
    · rw [← fr i (by omega) _ (pb r w) v]
      congr 1
      refine eq_bits (putBit_lt (putBit_lt (bits_lt _ _) (by omega)) hp) (putBit_lt (pb r w) (by omega)) fun j _=>?_
      rw [putBit_bit,putBit_bit,putBit_bit,putBit_bit]
      by_cases e1:j = p
      · rw [if_pos e1,if_pos e1,if_neg (by omega)]
      · rw [if_neg e1,if_neg e1]
  have ne:k0≠k1:=fun e=>by
    subst e
    obtain ⟨b,hb,hne⟩:=dep
    refine hne ?_
    have a:=y0 (rowN b)
    have c:=y1 (rowN b)
    rw [bits_rowN hb] at a c
    exact a.symm.trans c
  have fin:∀ (R:List Rm) (k:Nat),Bk n R→R[k]? = some (some (p,k0,k1))→(∀ j,j < rs.length→∀ r,yes R j r = yes rs j r)→∀ r,yes R k r = f (bits r n):=fun R k BR e same r=>by
    rw [yes_step BR e,same _ m1,same _ m0,y0,y1]
    have hb:=bits_bit r hp
    cases hr:r p
    · rw [if_neg Bool.false_ne_true]
      rw [hr] at hb
      conv=>rhs; rw [← putBit_self (bits r n) p,hb]
    · rw [if_pos rfl]
      rw [hr] at hb
      conv=>rhs; rw [← putBit_self (bits r n) p,hb]
  have new:some (p,k0,k1) ∉ rs:=fun h=>by
    obtain ⟨j,hj,e⟩:=List.getElem_of_mem h
    have e':rs[j]? = some (some (p,k0,k1)):=by rw [List.getElem?_eq_getElem hj,e]
    by_cases hm:j < m
    · exact old j hm (fin rs j B e' fun _ _ _=>rfl)
    · have:=hl j (by omega) hj
      rw [lev_of B e'] at this
      omega
  have B':=B.snoc hp m0 m1 ne (low k0 false m0 y0) (low k1 true m1 y1) new
  refine ⟨B',fin _ _ B' (by simp) fun j hj r=>?_⟩
  exact yes_snoc B hj r
end Bdd
namespace Bdd
open Sen
structure Tabs (n:Nat) (rs:List Rm) (ts:List Nat):Prop where
  len:ts.length = rs.length
  tab:∀ (j t:Nat),ts[j]? = some t→IsTab n t (fun b=>yes rs j (rowN b))
theorem Tabs.snoc {n:Nat} {rs:List Rm} (B:Bk n rs) {ts:List Nat} {x:Rm} {t:Nat} (h:Tabs n rs ts) (k:IsTab n t (fun b=>yes (rs ++ [x]) rs.length (rowN b))):Tabs n (rs ++ [x]) (ts ++ [t]):=by
  refine ⟨by rw [List.length_append,List.length_append,h.len]; rfl,fun j u e=>?_⟩
  by_cases hj:j < ts.length
  · rw [List.getElem?_append_left hj] at e
    refine tab_congr (h.tab j u e) fun b _=>?_
    rw [yes_snoc B (by rw [← h.len]; exact hj)]
  · have lt:=(List.getElem?_eq_some_iff.mp e).1
    rw [List.length_append,List.length_singleton] at lt
    have ej:j = ts.length:=by omega
    subst ej
    simp at e
    subst e
    rw [h.len]
    exact k
theorem Tabs.find {n:Nat} {rs:List Rm} (B:Bk n rs) {ts:List Nat} (h:Tabs n rs ts) {j t:Nat} {f:Nat→Bool} (e:ts[j]? = some t) (tb:IsTab n t f) (r:Row):yes rs j r = f (bits r n):=by
  have hj:j < rs.length:=by rw [← h.len]; exact (List.getElem?_eq_some_iff.mp e).1
  rw [← yes_bits B hj,← tab_val tb (bits_lt r n),tab_val (h.tab j t e) (bits_lt r n)]
theorem Tabs.same {n:Nat} {rs:List Rm} {ts:List Nat} (h:Tabs n rs ts) {j t:Nat} {f:Nat→Bool} (hj:j < rs.length) (tb:IsTab n t f) (hy:∀ r,yes rs j r = f (bits r n)):ts[j]? = some t:=by
  have lt:j < ts.length:=by rw [h.len]; exact hj
  rw [List.getElem?_eq_getElem lt]
  congr 1
  refine tab_inj (h.tab j _ (List.getElem?_eq_getElem lt)) tb fun b hb=>?_
  show yes rs j (rowN b) = f b
  rw [hy,bits_rowN hb]
end Bdd
namespace Sen
open PySem L2 Bdd
structure Nums (ts:List Nat) (kvs:List (Key × V)):Prop where
  get:∀ (j t:Nat),ts[j]? = some t→valV kvs (Sum.inl (t:Int)) = some (.int (j:Nat))
  non:∀ t:Nat,t ∉ ts→valV kvs (Sum.inl (t:Int)) = none
  len:kvs.length≤ts.length
theorem Nums.snoc {ts:List Nat} {kvs:List (Key × V)} (h:Nums ts kvs) {t:Nat} (ht:t ∉ ts):Nums (ts ++ [t]) (putK kvs (Sum.inl (t:Int)) (.int (ts.length:Nat))):=by
  refine ⟨fun j u e=>?_,fun u hu=>?_,?_⟩
  · rw [valV_put]
    by_cases hj:j < ts.length
    · rw [List.getElem?_append_left hj] at e
      have hm:=List.mem_of_getElem? e
      rw [if_neg fun z=>?_]
      · exact h.get j u e
      · have:(u:Int) = (t:Int):=Sum.inl.inj z
        have:u = t:=by omega
        exact ht (this ▸ hm)
    · have lt:=(List.getElem?_eq_some_iff.mp e).1
      rw [List.length_append,List.length_singleton] at lt
      have ej:j = ts.length:=by omega
      subst ej
      simp at e
      subst e
      rw [if_pos rfl]
  · rw [valV_put,if_neg fun z=>?_]
    · exact h.non u fun z=>hu (List.mem_append_left _ z)
    · have:(u:Int) = (t:Int):=Sum.inl.inj z
      have:u = t:=by omega
      exact hu (this ▸ List.mem_append_right _ List.mem_cons_self)
  · have:=length_putK kvs (Sum.inl (t:Int)) (.int (ts.length:Nat))
    have:=h.len
    rw [List.length_append,List.length_singleton]
    omega
def roomT (n j:Nat):Rm→List V
  | none=>[.int (n:Nat),.int (j:Nat),.int (j:Nat)]
  | some (i,lo,hi)=>[.int (i:Nat),.int (lo:Nat),.int (hi:Nat)]
def bookFs (ml rl tl nd:Addr):List (Str × V):=[("marks", .ref ml),("rooms", .ref rl),("tables", .ref tl),("numbers", .ref nd)]
structure Parts (C:Addr) (H:Hp) (b:Addr) (os:List Str) (rs:List Rm) (F:Foot) (dx ml rl tl nd:Addr) (rv:List V) (ts:List Nat) (kvs:List (Key × V)):Prop where
  hb:H b = some (.ins C dx (bookFs ml rl tl nd))
  hm:H ml = some (.lst (os.map V.str))
  hr:H rl = some (.lst rv)
  ht:H tl = some (.lst (ts.map fun t=>V.int (t:Nat)))
  hd:H nd = some (.dK kvs)
  mr:ml≠rl
  mt:ml≠tl
  rt:rl≠tl
  ord:IsOrd os
  bk:Bk os.length rs
  len:rv.length = rs.length
  rm:∀ (j:Nat) x,rs[j]? = some x→∃ p,rv[j]? = some (.ref p)∧H p = some (.tup (roomT os.length j x))
  tabs:Tabs os.length rs ts
  nums:Nums ts kvs
  ft:∀ x,F x↔(x = b∨x = ml∨x = rl∨x = tl∨x = nd)
def BookAt (C:Addr) (H:Hp) (b:Addr) (os:List Str) (rs:List Rm) (F:Foot):Prop:=∃ dx ml rl tl nd rv ts kvs,Parts C H b os rs F dx ml rl tl nd rv ts kvs
theorem Parts.frame {C:Addr} {H H':Hp} {b:Addr} {os:List Str} {rs:List Rm} {F:Foot} {dx ml rl tl nd:Addr} {rv:List V} {ts:List Nat} {kvs:List (Key × V)} (h:Parts C H b os rs F dx ml rl tl nd rv ts kvs)
    (s:∀ x o,H x = some o→F x→H' x = some o) (t:Tups H H'):Parts C H' b os rs F dx ml rl tl nd rv ts kvs :=
  { h with
    hb:=s _ _ h.hb ((h.ft _).mpr (.inl rfl))
    hm:=s _ _ h.hm ((h.ft _).mpr (.inr (.inl rfl)))
    hr:=s _ _ h.hr ((h.ft _).mpr (.inr (.inr (.inl rfl))))
    ht:=s _ _ h.ht ((h.ft _).mpr (.inr (.inr (.inr (.inl rfl)))))
    hd:=s _ _ h.hd ((h.ft _).mpr (.inr (.inr (.inr (.inr rfl)))))
    rm:=fun j x e=>let ⟨p,a,c⟩:=h.rm j x e; ⟨p,a,t _ _ c⟩ }
theorem bookLike (C:Addr):BookLike C (BookAt C) where
  ins:=fun ⟨dx,ml,rl,tl,nd,rv,ts,kvs,h⟩=>⟨dx,_,h.hb,fun m hm=>by
    simp only [bookMeths,List.mem_cons,List.not_mem_nil,or_false] at hm
    rcases hm with z | z | z | z | z | z <;> subst z <;> rfl⟩
  frame:=fun ⟨dx,ml,rl,tl,nd,rv,ts,kvs,h⟩ s t=>⟨dx,ml,rl,tl,nd,rv,ts,kvs,h.frame s t⟩
  there:=fun ⟨dx,ml,rl,tl,nd,rv,ts,kvs,h⟩ hx=>by
    rcases (h.ft _).mp hx with z | z | z | z | z <;> subst z
    · rw [h.hb]; exact fun z=>by cases z
    · rw [h.hm]; exact fun z=>by cases z
    · rw [h.hr]; exact fun z=>by cases z
    · rw [h.ht]; exact fun z=>by cases z
    · rw [h.hd]; exact fun z=>by cases z
  bk:=fun ⟨_,_,_,_,_,_,_,_,h⟩=>h.bk
  ord:=fun ⟨_,_,_,_,_,_,_,_,h⟩=>h.ord
theorem Parts.more {C:Addr} {H H':Hp} {b:Addr} {os:List Str} {rs:List Rm} {F:Foot} {dx ml rl tl nd:Addr} {rv:List V} {ts:List Nat} {kvs:List (Key × V)} (h:Parts C H b os rs F dx ml rl tl nd rv ts kvs)
    {i lo hi t:Nat} {q:Addr} (t':Tups H H') (hb:H' b = H b) (hm:H' ml = H ml) (hr:H' rl = some (.lst (rv ++ [.ref q]))) (ht:H' tl = some (.lst (ts.map (fun t=>V.int (t:Nat)) ++ [.int (t:Nat)])))
    (hd:H' nd = some (.dK (putK kvs (Sum.inl (t:Int)) (.int (rs.length:Nat))))) (hq:H' q = some (.tup [.int (i:Nat),.int (lo:Nat),.int (hi:Nat)])) (B':Bk os.length (rs ++ [some (i,lo,hi)])) (hn:t ∉ ts) (tb:IsTab os.length t (fun b=>yes (rs ++ [some (i,lo,hi)]) rs.length (rowN b))) :
    Parts C H' b os (rs ++ [some (i,lo,hi)]) F dx ml rl tl nd (rv ++ [.ref q]) (ts ++ [t]) (putK kvs (Sum.inl (t:Int)) (.int (rs.length:Nat))) :=
  { hb:=by rw [hb]; exact h.hb
    hm:=by rw [hm]; exact h.hm
    hr:=hr
    ht:=by rw [ht,List.map_append]; rfl
    hd:=hd
    mr:=h.mr
    mt:=h.mt
    rt:=h.rt
    ord:=h.ord
    bk:=B'
    len:=by rw [List.length_append,List.length_append,h.len]; rfl
    rm:=fun j x e=>by
      by_cases hj:j < rs.length
      · rw [List.getElem?_append_left hj] at e
        obtain ⟨p,a,c⟩:=h.rm j x e
        exact ⟨p,by rw [List.getElem?_append_left (by rw [h.len]; exact hj)]; exact a,t' _ _ c⟩
      · have lt:=(List.getElem?_eq_some_iff.mp e).1
        rw [List.length_append,List.length_singleton] at lt
        have ej:j = rs.length:=by omega
        subst ej
        simp at e
        subst e
        exact ⟨q,by rw [← h.len]; simp,hq⟩
    tabs:=h.tabs.snoc h.bk tb
    nums:=by
      have z:=h.nums.snoc hn
      rw [h.tabs.len] at z
      exact z
    ft:=h.ft }
inductive spHeldAt (vs:List V) (H:Hp) (Q:VK) (E9:XK):Prop
  | mk (N p n:Nat) (v:Bool) (f:Nat→Bool) (_:vs = [.int N,.int p,.int (v.toNat:Nat),.int n]) (_:p < n) (_:n≤8) (_:IsTab n N f) (_:∀ R:Nat,IsTab n R (fun b=>f (putBit b p v))→Q (.int R) H):spHeldAt vs H Q E9
inductive spFirst (vs:List V) (H:Hp) (Q:VK) (E9:XK):Prop
  | mk (N n:Nat) (f:Nat→Bool) (_:vs = [.int N,.int n]) (_:n≤8) (_:IsTab n N f) (_:∀ p:Nat,p≤n→(∀ i,i < p→Free n f i)→(p < n→∃ b,b < 2 ^ n∧f (putBit b p false)≠f (putBit b p true))→Q (.int p) H):spFirst vs H Q E9
inductive spRoomWith (C:Addr) (d:Nat) (vs:List V) (H:Hp) (Q:VK) (E9:XK):Prop
  | mk (b:Addr) (os:List Str) (rs:List Rm) (F:Foot) (t u:Nat) (f:Nat→Bool) (_:vs = [.ref b,.int t]) (_:BookAt C H b os rs F) (_:rs.length + 2 ^ d≤9000000) (_:u≤os.length) (_:os.length + 1≤u + d) (_:IsTab os.length t f) (_:(∀ i,i < u→Free os.length f i)) (_:∀ (k:Nat) (rs':List Rm) (H':Hp),Away F H H'→Tups H H'→BookAt C H' b os rs' F→Grown rs rs'→k < rs'.length→(∀ r,yes rs' k r = f (bits r os.length))→rs'.length + 1≤rs.length + 2 ^ d→(∀ j,rs.length≤j→j < rs'.length→u≤lev os.length rs' j)→Q (.int (k:Nat)) H'):spRoomWith C d vs H Q E9
inductive spHangs (vs:List V) (H:Hp) (Q:VK) (E9:XK):Prop
  | mk (N p n:Nat) (f:Nat→Bool) (_:vs = [.int N,.int p,.int n]) (_:p < n) (_:n≤8) (_:IsTab n N f) (_:∀ b:Bool,(b = false→Free n f p)→(b = true→∃ c,c < 2 ^ n∧f (putBit c p false)≠f (putBit c p true))→Q (.bl b) H):spHangs vs H Q E9
end Sen
namespace L2
open PySem PySem.Spec PyProof.Rows
section
variable {X:Cx}
def rAddL (K:PySem.W.Frag):R2:=fun x y H Q=>∃ p q xs ys,x = .ref p∧y = .ref q∧SqL K H p xs∧SqL K H q ys∧xs.length + ys.length≤sizeLine∧∀ l,H l = none→Q (.ref l) (upd H l (.lst (xs ++ ys)))
theorem op_addL:OpR X (binaryOp .Add) (rAddL X.K):=by
  intro pins s σ H x y v u Q I rx ry h
  obtain ⟨p,q,xs,ys,rfl,rfl,hp,hq,hz,h⟩:=h
  cases rx
  cases ry
  obtain ⟨its1,rv1,pl1,hz1⟩:=I.list hp
  obtain ⟨its2,rv2,pl2,hz2⟩:=I.list hq
  obtain ⟨⟨cls,dd,data,sl⟩,ho,hc,n,hd⟩:=id pl1.isList
  obtain ⟨⟨cls2,dd2,data2,sl2⟩,ho2,hc2,n2,hd2⟩:=id pl2.isList
  simp only at hc hd hc2 hd2
  subst hc hd hc2 hd2
  have l1:=rv1.length
  have l2:=rv2.length
  have e:its1.toArray ++ its2.toArray = (its1 ++ its2).toArray:=by simp
  refine concat_meets ⟨_,ho,rfl⟩ ⟨_,ho2,rfl⟩ noFill_list_add seq_list_add PySem.F.slot_list_add PySem.F.entry_list_add (PySem.F.args_list_add_2 _ _) (list_addW p q its1.toArray its2.toArray n n2 dd dd2 sl sl2 (by simp; omega)) ⟨ho,ho2,?_⟩
  rw [e]
  refine ⟨.ref s.heap.objs.size,_,I.laid (t':=s.toks) (o:=.lst (xs ++ ys)) (fun b o e=>Heap.get?_push_of_some _ e) (Nat.le_refl _) ?_,rfl,h _ (I.hok.fresh (Nat.le_refl _))⟩
  exact ⟨by rw [List.length_append]; exact hz,its1 ++ its2,0,rv1.append rv2,Heap.get?_push_size _ rfl⟩
end
end L2
namespace Sen
open PySem L2 Bdd
def cellF (ns:List Int) (i:Nat):Int:=(ns[i]?).getD 0
inductive spCellF (K:PySem.W.Frag) (vs:List V) (H:Hp) (Q:VK) (E9:XK):Prop
  | mk (l:Addr) (ns:List Int) (i:Nat) (_:vs = [.ref l,.int i]) (_:SqL K H l (ns.map V.int)) (_:Q (.int (cellF ns i)) H):spCellF K vs H Q E9
end Sen
namespace L2
open PySem PySem.Spec PyProof.Rows
theorem vals_strs:∀ {ss:List Str} {its:List Value},StrsAre its ss→Vals (ss.map V.str) its
  | _,_,.nil=>.nil
  | _,_,.cons x t h=>.cons ⟨t,rfl⟩ (vals_strs h)
end L2
namespace L2
open PySem PySem.Spec PyProof.Rows PySem.W
theorem tests_by {X:Cx} {c:Expr} {t:TT} {pins:List (Addr × Obj)} {s:Shared} {σ:St} {H:Hp} {Q:Bool→Hp→Prop} (I:Inv X pins σ H s) (h:t σ H Q) (hp:PT X c t):wpAny (model X.prog X.w) X.A (lcTests [c] X.env) (TP X pins σ Q) X.xe s:=wpAny_tests_one (hp pins s σ H Q I h)
end L2
namespace L2
open PySem PySem.Spec PyProof.Rows
def ExcO (h:Heap) (e:Addr) (cls:Value):Prop:=∃ oe vs,h.get? e = some oe∧oe.cls = cls∧oe.dict = none∧oe.data = .fields vs∧vs[2]? = some .none∧(vs[1]? = some .none∨∃ T oT ts,vs[1]? = some (.ref T)∧T≠e∧h.get? T = some oT∧oT.data = .fields ts∧ts[3]? = some .none)
structure LeftS (l:List Env) (e:Addr) (cls:Value) (h h':Heap):Prop where
  keep:∀ b o,h.get? b = some o→b ∉ frs l→b≠e→h'.get? b = some o
  slot:∀ b o,h.get? b = some o→b∈frs l→b≠e→∃ sl,h'.get? b = some { o with slots:=sl }
  exc:ExcO h' e cls
section
variable {M:Model} {A:Around} {E:Value→Shared→Prop} {s:Shared}
theorem dict_mapFields (f:Array Value→Array Value) (o:Obj):(Obj.mapFields f o).dict = o.dict:=by
  obtain ⟨c,dd,dt,sl⟩:=o
  cases dt <;> rfl
theorem newEntryS {base:Heap} {env:Env} {outer:List Env} {L e:Addr} {oe:Obj} {vs:Array Value} {head:Value} {hadNext:Bool} {Q:Unit→Shared→Prop} (hfr:A.frames = some (env :: outer)) (hl:s.heap.FunFrames base (env :: outer)) (hf:env.frame = some L)
    (he:s.heap.get? e = some oe) (hdn:oe.dict = none) (hd:oe.data = .fields vs) (h2:vs[2]? = some .none) (sz:1 < vs.size) (h:∀ h',LeftS (env :: outer) e oe.cls s.heap h'→Q () { s with heap:=h' }) :
    wpAny M A (do let a ← frameOf env; let pl ← entryPlaceOf L hadNext; let b ← EntryCells.newEntry head a .none (rawInt L) .none pl; setField (.ref e) 1 b) (fun _ s'=>wpAny M A (setFlight (.ref e) none) Q E s') E s:=by
  have ne:e ∉ frs (env :: outer):=fun hm=>by
    obtain ⟨_,o,ho,hnf⟩:=hl.mem hm
    rw [he] at ho; injection ho with ho; subst ho; exact hnf vs hd
  refine wpAny_bind (wpAny_frameOf_fun hfr hl hf fun h1 hs1=>wpAny_bind (wpAny_entryPlaceOf fun pl hpl=>?_))
  unfold EntryCells.newEntry newFields; refine wpAny_bind (wpAny_newObj_type ?_ (hpl.sizeOk5 _ _ _ _ _))
  have he1:h1.get? e = some oe:=(hs1.2.1 e ne).trans he
  have he2:=Heap.get?_push_of_some (h:=h1) { cls:=.type "traceback", dict:=none,data:=.fields ([head,.ref L,.none,rawInt L,.none] ++ (if pl.isEmpty then List.replicate 6 Value.none else pl)).toArray } he1
  refine wpAny_setField he2 hd sz ?_
  have nT:h1.objs.size≠e:=Nat.ne_of_gt (Heap.lt_size he1)
  have hd3:=Obj.data_mapFields hd (·.setIfInBounds 1 (Value.ref h1.objs.size))
  have he3:=Heap.get?_update_self (Obj.mapFields (·.setIfInBounds 1 (Value.ref h1.objs.size))) he2 (Obj.isFreed_of_fields hd3)
  have hT3:=(Heap.get?_update_other (h1.push { cls:=.type "traceback", dict:=none,data:=.fields ([head,.ref L,.none,rawInt L,.none] ++ (if pl.isEmpty then List.replicate 6 Value.none else pl)).toArray }) (Obj.mapFields (·.setIfInBounds 1 (Value.ref h1.objs.size))) (Ne.symm nT)).trans (Heap.get?_push_size h1 rfl)
  unfold setFlight; refine wpAny_bind (wpAny_field he3 hd3 (x:=.ref h1.objs.size) (by simp [sz]) ?_)
  rw [if_pos (show (Value.ref h1.objs.size != Value.none) = true from by simp)]
  refine wpAny_setField hT3 rfl (by simp only [List.size_toArray,List.length_append,List.length_cons,List.length_nil] <;> omega) (h _ ?_)
  have keep:∀ b o,b≠e→h1.get? b = some o→(((h1.push { cls:=.type "traceback", dict:=none,data:=.fields ([head,.ref L,.none,rawInt L,.none] ++ (if pl.isEmpty then List.replicate 6 Value.none else pl)).toArray }).update e (Obj.mapFields (·.setIfInBounds 1 (Value.ref h1.objs.size)))).update h1.objs.size (Obj.mapFields (·.setIfInBounds 3 ((none:Option Addr).elim Value.none fun f=>rawInt f)))).get? b = some o:=fun b o hbe hb=>by
    have hbT:h1.objs.size≠b:=Nat.ne_of_gt (Heap.lt_size hb)
    rw [Heap.get?_update_other _ _ hbT,Heap.get?_update_other _ _ (Ne.symm hbe)]; exact Heap.get?_push_of_some _ hb
  refine ⟨fun b o hb hnf hbe=>keep b o hbe ((hs1.2.1 b hnf).trans hb),fun b o hb _ hbe=>?_,?_⟩
  · obtain ⟨sl,hs⟩:=hs1.2.2 b o hb
    exact ⟨sl,keep b _ hbe hs⟩
  · refine ⟨_,_,?_,Obj.cls_mapFields _ _,(by rw [dict_mapFields]; exact hdn),hd3,(by rw [Array.getElem?_setIfInBounds_ne (by decide)]; exact h2),.inr ⟨h1.objs.size,_,_,by simp [sz],nT,Heap.get?_update_self _ hT3 (Obj.isFreed_of_fields (Obj.data_mapFields rfl _)),Obj.data_mapFields rfl _,by first | (simp; done) | (rcases hpl with rfl | ⟨_,_,_,_,_,_,_,rfl⟩ <;> simp)⟩⟩
    rw [Heap.get?_update_other _ _ nT]; exact he3
theorem note_s {base:Heap} {env:Env} {outer:List Env} {L e:Addr} {cls:Value} {Q:Unit→Shared→Prop} (hfr:A.frames = some (env :: outer)) (hl:s.heap.FunFrames base (env :: outer)) (hf:env.frame = some L) (hx:ExcO s.heap e cls)
    (h:∀ h',LeftS (env :: outer) e cls s.heap h'→Q () { s with heap:=h' }):wpAny M A (noteFrame (.ref e) env) (fun _ s1=>wpAny M A (setFlight (.ref e) none) Q E s1) E s:=by
  obtain ⟨oe,vs,he,rfl,hdn,hd,h2,h1 | ⟨T,oT,ts,h1,nT,hT,hdT,h3⟩⟩:=hx
  · unfold noteFrame
    simp only [hf]; refine wpAny_bind (wpAny_field he hd h1 ?_)
    rw [if_neg (by decide)]
    exact newEntryS hfr hl hf he hdn hd h2 (Array.getElem?_eq_some_iff.mp h1).1 h
  · unfold noteFrame
    simp only [hf]; refine wpAny_bind (wpAny_field he hd h1 ?_)
    rw [if_pos (show (Value.ref T != Value.none) = true from by simp)]; refine wpAny_bind (wpAny_field hT hdT h3 ?_)
    rw [if_neg (show ¬ ((Value.none == rawInt L) = true) from by simp [rawInt])]; refine wpAny_bind (wpAny_setField hT hdT (Array.getElem?_eq_some_iff.mp h3).1 ?_)
    have same:∀ b,(s.heap.update T (Obj.mapFields (·.setIfInBounds 3 Value.none))).get? b = s.heap.get? b:=fun b=>by
      by_cases z:b = T
      · subst z
        rw [Heap.get?_update_self _ hT (Obj.isFreed_of_fields (Obj.data_mapFields hdT _)),hT]
        have et:ts.setIfInBounds 3 Value.none = ts:=by
          obtain ⟨q1,q2⟩:=Array.getElem?_eq_some_iff.mp h3
          rw [Array.setIfInBounds,dif_pos q1]
          rw [← q2]
          exact Array.set_getElem_self ..
        obtain ⟨c,dd,dt,sl⟩:=oT
        cases hdT
        show some _ = some _
        refine congrArg some ?_
        show Obj.mapFields _ _ = _
        simp only [Obj.mapFields,et]
      · exact Heap.get?_update_other _ _ (Ne.symm z)
    refine newEntryS (base:=base) (s:={ s with heap:=s.heap.update T (Obj.mapFields (·.setIfInBounds 3 Value.none)) }) hfr (hl.of_keeps fun b o hb hnf=>⟨o,(same b).trans hb,rfl⟩) hf ((same e).trans he) hdn hd h2 (Array.getElem?_eq_some_iff.mp h1).1 fun h' x=>h h' ⟨fun b o hb=>x.keep b o ((same b).trans hb),fun b o hb=>x.slot b o ((same b).trans hb),x.exc⟩
theorem leave_s {base:Heap} {env:Env} {outer:List Env} {L e:Addr} {cls:Value} {Q:Unit→Shared→Prop} (hfr:A.frames = some (env :: outer)) (hl:s.heap.FunFrames base (env :: outer)) (hf:env.frame = some L) (hx:ExcO s.heap e cls)
    (h:∀ h',LeftS (env :: outer) e cls s.heap h'→Q () { s with heap:=h' }):wpAny M A (leaving env (.ref e)) Q E s:=by
  unfold leaving
  exact wpAny_bind (note_s hfr hl hf hx h)
theorem land_s {e:Addr} {cls:Value} {Q:Unit→Shared→Prop} (hx:ExcO s.heap e cls) (h:∀ h',(∀ b,h'.get? b = s.heap.get? b)→Q () { s with heap:=h' }):wpAny M A (setFlight (.ref e) none) Q E s:=by
  obtain ⟨oe,vs,he,rfl,hdn,hd,h2,h1 | ⟨T,oT,ts,h1,nT,hT,hdT,h3⟩⟩:=hx
  · unfold setFlight
    refine wpAny_bind (wpAny_field he hd h1 ?_)
    rw [if_neg (by decide)]
    exact wpAny_pure (h s.heap fun _=>rfl)
  · unfold setFlight
    refine wpAny_bind (wpAny_field he hd h1 ?_)
    rw [if_pos (show (Value.ref T != Value.none) = true from by simp)]
    refine wpAny_setField hT hdT (Array.getElem?_eq_some_iff.mp h3).1 (h _ fun b=>?_)
    by_cases z:b = T
    · subst z
      rw [Heap.get?_update_self _ hT (Obj.isFreed_of_fields (Obj.data_mapFields hdT _)),hT]
      have et:ts.setIfInBounds 3 Value.none = ts:=by
        obtain ⟨q1,q2⟩:=Array.getElem?_eq_some_iff.mp h3
        rw [Array.setIfInBounds,dif_pos q1]
        rw [← q2]
        exact Array.set_getElem_self ..
      obtain ⟨c,dd,dt,sl⟩:=oT
      cases hdT
      refine congrArg some ?_
      show Obj.mapFields _ _ = _
      simp only [Obj.mapFields,Option.elim,et]
    · exact Heap.get?_update_other _ _ (Ne.symm z)
theorem ExcO.same {h h':Heap} {e:Addr} {cls:Value} (x:ExcO h e cls) (k:∀ b,h'.get? b = h.get? b):ExcO h' e cls:=by
  obtain ⟨oe,vs,he,hc,hdn,hd,h2,h1 | ⟨T,oT,ts,h1,nT,hT,hdT,h3⟩⟩:=x
  · exact ⟨oe,vs,(k e).trans he,hc,hdn,hd,h2,.inl h1⟩
  · exact ⟨oe,vs,(k e).trans he,hc,hdn,hd,h2,.inr ⟨T,oT,ts,h1,nT,(k T).trans hT,hdT,h3⟩⟩
end
theorem Inv.fresh0 {X:Cx} {pins:List (Addr × Obj)} {σ:St} {H:Hp} {s:Shared} {a:Addr} (I:Inv X pins σ H s) (hex:X.ex = []) (hn:s.heap.get? a = none):X.s₀.heap.get? a = none:=by
  cases q:X.s₀.heap.get? a with
  | none=>rfl
  | some o =>
    obtain ⟨o',e⟩:=I.base.there a o q (by rw [hex]; simp)
    rw [hn] at e; cases e
def CXE (P:Program) (w:World):CXT:=fun outer H s E e s'=>∃ (a:Addr) (cls:Value) (H':Hp),e = .ref a∧s'.os = s.os∧AllBare s'.gens∧Un (frs outer) [] H H' s.heap s'.heap∧HOk P w H' s'.heap∧s.heap.get? a = none∧H' a = none∧ExcO s'.heap a cls∧E cls none H'
section
variable {P:Program} {w:World} {K:PySem.W.Frag} {mg:Str→Option Value} {base:Heap} {N:List Str} {qual:Str} {scope:Scope} {f:Addr} {cd:Value} {A:Around} {outer:List Env} {s0:Shared} {H0:Hp} {E:XK}
theorem xe_of {pins:List (Addr × Obj)} {σ:St} {H:Hp} {s:Shared} {a:Addr} {cls:Value} (I:Inv (cxOf (CXE P w) P w K mg base N qual scope f cd A outer s0 H0 E) pins σ H s) (hx:ExcO s.heap a cls) (ha:s0.heap.get? a = none) (hn:H a = none) (hE:E cls none H) :
    (cxOf (CXE P w) P w K mg base N qual scope f cd A outer s0 H0 E).xe (.ref a) s:=by
  show wpAny (model P w) (A.deeper (envOfC qual scope s0.heap.objs.size f cd)) (leaving (envOfC qual scope s0.heap.objs.size f cd) (.ref a)) _ _ s
  refine leave_s (base:=base) (outer:=outer) (L:=s0.heap.objs.size) I.ok.frames I.stack rfl hx fun h' lf=>?_
  have fr:∀ b,b∈frs (envOfC qual scope s0.heap.objs.size f cd :: outer)→b = s0.heap.objs.size∨b∈frs outer:=fun b hb=>List.mem_cons.mp hb
  have nfr:∀ b,b < s0.heap.objs.size→b ∉ frs outer→b ∉ frs (envOfC qual scope s0.heap.objs.size f cd :: outer):=fun b hb hn z=>(fr b z).elim (Nat.ne_of_lt hb) hn
  have trk:∀ b u,H b = some u→b ∉ frs (envOfC qual scope s0.heap.objs.size f cd :: outer)∧b≠a:=fun b u e=>⟨(fun z=>by rw [I.stkFree b z] at e; cases e),(fun z=>by rw [z,hn] at e; cases e)⟩
  refine ⟨a,cls,H,rfl,I.os,I.bare,⟨fun b o q n hb hx=>?_,fun b o q n hb hx=>?_,I.base.free,fun b o q hx=>?_,I.base.tups,I.base.frzs,I.base.tbls⟩,fun b u e=>?_,ha,hn,lf.exc,hE⟩
  · exact lf.keep b o (I.base.keep b o q n hb hx) (nfr b (Heap.lt_size q) hb) (fun z=>by rw [z,ha] at q; cases q)
  · obtain ⟨sl,e1⟩:=I.base.slot b o q n hb hx
    obtain ⟨sl2,e2⟩:=lf.slot b _ e1 (List.mem_cons_of_mem _ hb) (fun z=>by rw [z,ha] at q; cases q)
    exact ⟨sl2,e2⟩
  · obtain ⟨o',e1⟩:=I.base.there b o q hx
    have ne:b≠a:=fun z=>by rw [z,ha] at q; cases q
    by_cases z:b∈frs (envOfC qual scope s0.heap.objs.size f cd :: outer)
    · obtain ⟨sl,e2⟩:=lf.slot b o' e1 z ne
      exact ⟨_,e2⟩
    · exact ⟨_,lf.keep b o' e1 z ne⟩
  · refine (I.hok b u e).stay (fun c v hc q=>?_) (fun c q=>q) fun c xs q=>q
    rcases hc with rfl | hc
    · exact lf.keep _ v q (trk _ u e).1 (trk _ u e).2
    · exact lf.keep _ v q (trk _ _ hc).1 (trk _ _ hc).2
theorem passE:Passes (CXE P w) (cxOf (CXE P w) P w K mg base N qual scope f cd A outer s0 H0 E) E:=by
  intro pins σ H s e s' I h
  obtain ⟨a,cls,H',rfl,os,bare,un,hok,ha,hn,hx,hE⟩:=h
  have I':=I.call' (s':=s') (ch:=[]) os un hok bare (fun b z=>absurd z (by simp))
  exact xe_of I' hx (I.fresh0 rfl ha) hn hE
end
theorem FnOk.lift {P:Program} {w:World} {K:PySem.W.Frag} {mg:Str→Option Value} {base:Heap} {CX:CXT} {k:Nat} {f:Addr} {fd:FuncData} {ps:List Str} {sp:Sp} (F:FnOk P w K mg base CX0 k f fd ps sp):FnOk P w K mg base CX k f fd ps sp :=
  ⟨F.len,fun A outer s H args us vs Q E hr e0 hb r h=>codeAny_mono (F.run A outer s H args us vs Q E hr e0 hb r h) fun r s' hq=>by
    cases r with
    | error e=>exact hq.elim
    | ok fl =>
      cases fl with
      | ret u=>exact hq
      | next=>exact hq
      | brk=>exact hq
      | cont=>exact hq⟩
theorem FnOk.orE {P:Program} {w:World} {K:PySem.W.Frag} {mg:Str→Option Value} {base:Heap} {CX:CXT} {k:Nat} {f:Addr} {fd:FuncData} {ps:List Str} {sp sp':Sp} (F:FnOk P w K mg base CX k f fd ps sp) (G:FnOk P w K mg base CX k f fd ps sp'):FnOk P w K mg base CX k f fd ps (fun vs H Q E=>sp vs H Q E∨sp' vs H Q E) :=
  ⟨fun vs H Q E h=>h.elim (F.len vs H Q E) (G.len vs H Q E),fun A outer s H args us vs Q E hr e0 hb r h=>h.elim (F.run A outer s H args us vs Q E hr e0 hb r) (G.run A outer s H args us vs Q E hr e0 hb r)⟩
section
variable {P:Program} {w:World} {K:PySem.W.Frag} {mg:Str→Option Value} {base:Heap}
theorem Fun.okE {x qual:Str} {st:Stmt} {f:Addr} {fd:FuncData} {N ps:List Str} {k:Nat} {sp:Sp} (F:Fun K x qual st f fd) (S:FnScope N ps (defScope st)) (len:∀ vs H Q E,sp vs H Q E→vs.length = ps.length)
    (hbody:∀ (cdv:Value) (A:Around) (outer:List Env) (s:Shared) (H:Hp) (vs:List V) (Q:VK) (E:XK),Room k (A.deeper (envOfC qual (defScope st) s.heap.objs.size f cdv))→sp vs H Q E →
      ∃ t,PSs (cxOf (CXE P w) P w K mg base N qual (defScope st) f cdv A outer s H E) (defBody st) t∧t { nx:=fun _ H'=>Q .non H',rt:=Q } (start N vs) H):FnOk P w K mg base (CXE P w) (k + 1) f fd ps sp:=by
  obtain ⟨oc,od,kV,doc,pm,an,cdv,ct,osl,rfl,lk,hcd⟩:=F.ex
  exact fn_of lk hcd S len fun A outer s H vs Q E hr hsp=>hbody cdv A outer s H vs Q E hr hsp
end
end L2
namespace L2
open PySem
theorem lc_rngC {σ:St} {js:List Nat} {te:TE} {H:Hp} {Qf:Addr→Hp→List V→Prop} {n:Nat} (Pv:Nat→List V→Hp→Prop) (h0:Pv 0 [] H) (hz:n≤sizeLine) (hl:∀ i ys H,i≤n→Pv i ys H→ys.length≤i)
    (hs:∀ (i:Nat) ys H (Q:V→Hp→Prop),i < n→Pv i ys H→(∀ v H3,Pv (i + 1) (ys ++ [v]) H3→Q v H3)→te (lcS σ js (some (.int ((0:Int) + i)))) H Q)
    (hd:∀ ys H p,Pv n ys H→H p = none→Qf p H ys) :
    ∃ W:Nat→Nat→List V→Hp→Prop,(∃ m,W 0 m [] H)∧∀ i m ys H,W i m ys H →
      ((Itr 0 n).stop i H∧∀ p,H p = none→Qf p H ys) ∨
      ((Itr 0 n).go i H∧ys.length < sizeLine∧∀ x H',(Itr 0 n).yld i H x H'→tYes (lcS σ js (some x)) H' fun b H2 =>
        if b = true then te (lcS σ js (some x)) H2 fun v H3=>∃ m',m' < m∧W (i + 1) m' (ys ++ [v]) H3 else ∃ m',m' < m∧W (i + 1) m' ys H2):=by
  refine ⟨fun i m ys H=>m = n - i∧i≤n∧Pv i ys H,⟨n,by simp,Nat.zero_le _,h0⟩,?_⟩
  rintro i m ys H ⟨rfl,hi,p⟩
  have hy:=hl i ys H hi p
  by_cases hlt:i < n
  · refine .inr ⟨hlt,by omega,fun x H' y=>?_⟩
    obtain ⟨e,y⟩:=y
    subst e y
    exact hs i ys _ _ hlt p fun v H3 h3=>⟨_,Nat.sub_lt_sub_left hlt (Nat.lt_succ_self i),rfl,hlt,h3⟩
  · have e:i = n:=by omega
    subst e
    exact .inl ⟨Nat.le_refl _,fun pp hp=>hd ys H pp p hp⟩
end L2
namespace L2
open PySem PySem.Spec PyProof.Rows
structure XCls (K:PySem.W.Frag) (D:Addr):Prop where
  ga:PySem.W.findIn K (.ref D) "__getattribute__" = some (some (.builtin "BaseException.__getattribute__"))
  gt:PySem.W.findIn K (.ref D) "__getattr__" = some none
  ca:PySem.W.findIn K (.ref D) "__class__" = some (some (.builtin "object.__class__"))
  bx:PySem.W.mroIn K D (.type "BaseException") = some true
  ob:PySem.W.mroIn K D (.type "object") = some true
  cl:(PySem.W.clsIn K D).isSome = true
theorem slot_bexc_ga:Slot "BaseException" "__getattribute__" "BaseException.__getattribute__" :=
  .of (owner := "BaseException") (n := "__getattribute__") (by rw [typeLookup_type,builtinLookup_eq_fast]; kernel_rfl) (by decide +kernel) (by decide +kernel) (by decide +kernel)
    (by first | exact .inl (by decide +kernel) | exact .inr (by decide +kernel)) (by rw [isSubtype_type]; kernel_rfl)
section
variable {prog:Program} {w:World} {A:Around} {E:Value→Shared→Prop} {h:Heap} {g:Array GenState} {d:Drawn} {t:Nat} {os:OsState} {a D:Addr} {o:Obj} {K:PySem.W.Frag}
theorem class_entry_exc {tk:Tok} {Q:Fin→Shared→Prop} (X:K.In h) (c:XCls K D) (I:PySem.W.InstAt h a o D none) (hq:Q (.done (.ret (.ref D))) ⟨h,g,d,t,os⟩) :
    wpAny (model prog w) A (Builtin.«object.__getattribute__» ⟨[.ref a,.str "__class__" tk],[]⟩) Q E ⟨h,g,d,t,os⟩:=by
  have hT5:(⟨h,g,d,t,os⟩:Shared).TypeIs (.builtin "object.__class__") "getset_descriptor" := F.typeOf_object_class
  have f5:=F.typeOf_object_class
  have f6:=F.slot_gs_get.lookup
  have f7:=F.slot_gs_set.lookup
  have hx:=I.at_
  have hc:=I.cls
  have L1:=PySem.W.looks_findIn (M:=model prog w) X c.ca
  repeat (any_goals (first | assumption | (with_reducible refine wpAny_loadPart_at hx ?_; rw [hc]) | with_reducible refine L1.at ?_ | wp_step))
  refine PySem.W.class_get (s:=⟨h,g,d,t,os⟩) X I c.ob ?_
  repeat (any_goals (first | assumption | wp_step))
theorem check_ga_exc {M:Model} {nameV:Value} {Q:Unit→Shared→Prop} (X:K.In h) (c:XCls K D) (I:PySem.W.InstAt h a o D none) (hq:Q () ⟨h,g,d,t,os⟩):wpAny M A (checkBuiltinCall "BaseException.__getattribute__" ⟨[.ref a,nameV],[]⟩) Q E ⟨h,g,d,t,os⟩:=by
  have hk:builtinKind "BaseException.__getattribute__" = some .slot:=by decide +kernel
  have hsplit:splitId "BaseException.__getattribute__" = some ("BaseException", "__getattribute__"):=by decide +kernel
  have ha:=F.args_bexc_ga (.ref a) nameV
  have hx:=I.at_
  have hc:=I.cls
  have L1:=PySem.W.looks_mroIn (M:=M) X c.bx
  simp only [checkBuiltinCall,hk,hsplit]
  refine wpAny_bind ?_
  · unfold isInstance
    repeat (first | (with_reducible refine wpAny_loadPart_at hx ?_; rw [hc]) | with_reducible refine L1.at ?_ | wp_step)
    exact hq
theorem class_call_exc {tk:Tok} {R:Result→Shared→Prop} (X:K.In h) (c:XCls K D) (I:PySem.W.InstAt h a o D none) (hq:R (.ok (.ret (.ref D))) ⟨h,g,d,t,os⟩) :
    codeAny (model prog w) A (.call (.builtin "BaseException.__getattribute__") ⟨[.ref a,.str "__class__" tk],[]⟩) R ⟨h,g,d,t,os⟩ :=
  codeAny_call_builtin slot_bexc_ga.plain F.entry_bexc_ga (check_ga_exc X c I (class_entry_exc X c I hq))
theorem class_by_exc {tk:Tok} {Q:Value→Shared→Prop} (X:K.In h) (c:XCls K D) (I:PySem.W.InstAt h a o D none) (hq:Q (.ref D) ⟨h,g,d,t,os⟩):wpAny (model prog w) A (getAttrBy (.ref a) (.str "__class__" tk) false) Q E ⟨h,g,d,t,os⟩:=by
  have f3:=slot_bexc_ga.bind (.ref a)
  have hx2:(Value.builtin "BaseException.__getattribute__" == Value.builtin "object.__getattribute__") = false:=by decide +kernel
  have hx1:(onTheHeap (Value.ref D) && Value.builtin "BaseException.__getattribute__" == Value.builtin "object.__getattribute__") = false:=by rw [hx2]; rfl
  have hx:=I.at_
  have hc:=I.cls
  have L1:=PySem.W.looks_findIn (M:=model prog w) X c.ga
  have L2:=PySem.W.looks_findIn (M:=model prog w) X c.gt
  repeat (any_goals (first | assumption | (with_reducible refine wpAny_loadPart_at hx ?_; rw [hc]) | with_reducible refine L1.at ?_ | with_reducible refine L2.at ?_ | wp_step))
  refine class_call_exc X c I ?_
  repeat (any_goals (first | assumption | wp_step))
theorem class_attr_exc {Q:Option Value→Shared→Prop} (X:K.In h) (c:XCls K D) (I:PySem.W.InstAt h a o D none) (hq:Q (some (.ref D)) ⟨h,g,d,t + 1,os⟩):wpAny (model prog w) A (getAttr? (.ref a) "__class__") Q E ⟨h,g,d,t,os⟩:=by
  unfold getAttr? getAttrBy?
  repeat (any_goals (first | assumption | with_reducible apply class_by_exc X c I | wp_step))
end
theorem kitx_exc {K:PySem.W.Frag} {a D:Addr} (c:XCls K D):PySem.W.KitX K (.ref a) (.ref D) (fun h=>∃ o,PySem.W.InstAt h a o D none) where
  ty:=fun _ _ _ ⟨_,I⟩=>I.type
  it:=fun _ _ X _=>by
    obtain ⟨cdD,hcD⟩:=Option.isSome_iff_exists.mp c.cl
    unfold PySem.W.clsIn at hcD
    split at hcD
    · rename_i c' d' cd' sl' ho
      intro A' Q' E' s' k q
      unfold isType loadHead
      exact wpAny_bind (wpAny_loadPart (k _ _ (X _ _ ho)) (wpAny_pure q))
    · cases hcD
  ne:=fun h tp dd its n sl X htp=>by
    obtain ⟨cdD,hcD⟩:=Option.isSome_iff_exists.mp c.cl
    refine Bool.eq_false_iff.mpr fun q=>?_
    have e:D = tp:=Value.ref.inj (beq_iff_eq.mp q)
    subst e
    unfold PySem.W.clsIn at hcD
    split at hcD
    · rename_i c' d' cd' sl' ho
      have z:=(X _ _ ho).symm.trans htp
      cases z
    · cases hcD
  ca:=fun {_ _ _ _ _ s} X ⟨o,I⟩ k=>by
    obtain ⟨h,g,d,t,os⟩:=s
    exact class_attr_exc X c I k
end L2
namespace L2
open PySem PySem.Spec PyProof.Rows
def excO (a D:Addr):HO:=.ext fun h=>∃ o vs,PySem.W.InstAt h a o D none∧o.data = .fields vs∧vs[2]? = some .none
theorem InstAt.none_ {h:Heap} {a D:Addr} {o:Obj} (e:h.get? a = some o) (hc:o.cls = .ref D) (hd:o.dict = none) (hn:PySem.W.notCls o = true):PySem.W.InstAt h a o D none :=
  ⟨e,hc,hn,by rw [hd]; trivial⟩
theorem excO_ok {P:Program} {w:World} {H:Hp} {h:Heap} {a D:Addr} (hx:ExcO h a (.ref D)):ObjOk P w H h a (excO a D):=by
  obtain ⟨oe,vs,he,hc,hdn,hd,h2,_⟩:=hx
  refine ⟨⟨oe,vs,InstAt.none_ he hc hdn ?_,hd,h2⟩,⟨_,he⟩,fun h1 h2 ⟨o,vs,I,q1,q2⟩ k=>⟨o,vs,⟨k o I.at_,I.cls,I.no,?_⟩,q1,q2⟩⟩
  · obtain ⟨c,dd,dt,sl⟩:=oe
    cases hd
    rfl
  · have:=I.dict
    revert this
    cases o.dict <;> exact fun z=>z
theorem Rd.exc {P:Program} {w:World} {H:Hp} {h:Heap} {a D:Addr} (ok:HOk P w H h) (e:H a = some (excO a D)):∃ o vs,PySem.W.InstAt h a o D none∧o.data = .fields vs∧vs[2]? = some .none:=(ok a _ e).1
structure Fly (X:Cx) (pins:List (Addr × Obj)) (H:Hp) (s:Shared) (a:Addr) (cls:Value):Prop where
  exc:ExcO s.heap a cls
  hn:H a = none
  s0:X.s₀.heap.get? a = none
  loc:a≠X.env.locals
  cell:∀ x c,X.env.cells.lookup x = some c→c≠a
  pin:∀ p∈X.pn ++ pins,p.1≠a
  st:a ∉ frs X.stack
section
variable {X:Cx} {pins:List (Addr × Obj)} {σ:St} {H H':Hp} {s s':Shared} {a:Addr} {cls:Value}
theorem Inv.fly (I:Inv X pins σ H s) (hex:X.ex = []) (hn:s.heap.get? a = none) (hn':H' a = none) (hx:ExcO s'.heap a cls):Fly X pins H' s' a cls where
  exc:=hx
  hn:=hn'
  s0:=I.fresh0 hex hn
  loc:=fun z=>by
    obtain ⟨m,⟨o,_,_,ho,_⟩,_⟩:=I.loc
    rw [← z,hn] at ho; cases ho
  cell:=fun x c e z=>by
    obtain ⟨v,o,ho,_⟩:=I.cell x c e
    rw [z,hn] at ho; cases ho
  pin:=fun p hp z=>by
    have:=(I.pin p hp).1
    rw [z,hn] at this; cases this
  st:=fun z=>by
    obtain ⟨_,o,ho,_⟩:=I.stack.mem z
    rw [hn] at ho; cases ho
theorem Inv.left {h':Heap} (I:Inv X pins σ H s) (f:Fly X pins H s a cls) (lf:LeftS X.stack a cls s.heap h'):Inv X pins σ H { s with heap:=h' }:=by
  have nst:∀ b,b≠X.env.locals→b ∉ X.fs→b ∉ frs X.stack:=fun b h1 h2 z=>(List.mem_cons.mp (I.stkSub b z)).elim h1 h2
  have upto:∀ b o,s.heap.get? b = some o→b≠a→∃ sl,h'.get? b = some { o with slots:=sl }:=fun b o e ne=>by
    by_cases z:b∈frs X.stack
    · exact lf.slot b o e z ne
    · exact ⟨o.slots,lf.keep b o e z ne⟩
  have cellK:∀ x c,X.env.cells.lookup x = some c→∀ v,s.heap.IsCell c v→h'.IsCell c v:=fun x c e v ⟨o,ho,hd⟩=>by
    obtain ⟨sl,q⟩:=upto c o ho (f.cell x c e)
    exact ⟨_,q,hd⟩
  have ne0:∀ b o,X.s₀.heap.get? b = some o→b≠a:=fun b o e z=>by rw [z,f.s0] at e; cases e
  refine ⟨I.ok,I.os,I.bare,⟨fun b o e n hb hx=>?_,fun b o e n hb hx=>?_,I.base.free,fun b o e hx=>?_,I.base.tups,I.base.frzs,I.base.tbls⟩,?_,fun x c e=>?_,I.free,I.freeC,fun p hp=>?_,fun b u e=>?_,I.len⟩
  · exact lf.keep b o (I.base.keep b o e n hb hx) (nst b (Nat.ne_of_lt (Nat.lt_of_lt_of_le (Heap.lt_size e) I.ok.above)) hb) (ne0 b o e)
  · obtain ⟨sl,e1⟩:=I.base.slot b o e n hb hx
    obtain ⟨sl2,e2⟩:=upto b _ e1 (ne0 b o e)
    exact ⟨sl2,e2⟩
  · obtain ⟨o',e1⟩:=I.base.there b o e hx
    obtain ⟨sl2,e2⟩:=upto b _ e1 (ne0 b o e)
    exact ⟨_,e2⟩
  · obtain ⟨m,⟨o,es,ep,ho,r⟩,hl⟩:=I.loc
    obtain ⟨sl,q⟩:=upto _ o ho (Ne.symm f.loc)
    refine ⟨m,⟨_,es,ep,q,r⟩,fun i x v e1 e2 e3=>?_⟩
    obtain ⟨u,r,l⟩:=hl i x v e1 e2 e3
    refine ⟨u,r,?_⟩
    rcases l with l | ⟨k,c,e,z⟩
    · exact .inl l
    · exact .inr ⟨k,c,e,cellK x c e _ z⟩
  · obtain ⟨v,z⟩:=I.cell x c e
    exact ⟨v,cellK x c e v z⟩
  · obtain ⟨e,n,ne,nf,d⟩:=I.pin p hp
    exact ⟨lf.keep p.1 p.2 e (nst p.1 ne nf) (f.pin p hp),n,ne,nf,d⟩
  · have tr:∀ b u,H b = some u→b ∉ frs X.stack∧b≠a:=fun b u e=>⟨(fun z=>by rw [I.stkFree b z] at e; cases e),(fun z=>by rw [z,f.hn] at e; cases e)⟩
    refine (I.hok b u e).stay (fun c v hc q=>?_) (fun c q=>q) fun c xs q=>q
    rcases hc with rfl | hc
    · exact lf.keep _ v q (tr _ u e).1 (tr _ u e).2
    · exact lf.keep _ v q (tr _ _ hc).1 (tr _ _ hc).2
theorem Inv.trackX {D:Addr} (I:Inv X pins σ H s) (f:Fly X pins H s a (.ref D)):Inv X pins σ (upd H a (excO a D)) s:=by
  have ne0:∀ b o,X.s₀.heap.get? b = some o→b≠a:=fun b o e z=>by rw [z,f.s0] at e; cases e
  have neH:∀ b u,H b = some u→b≠a:=fun b u e z=>by rw [z,f.hn] at e; cases e
  refine ⟨I.ok,I.os,I.bare,⟨I.base.keep,I.base.slot,fun b o e n hx=>?_,I.base.there,fun b xs e=>?_,fun b o u e=>?_,fun b ps e=>?_⟩,I.loc,I.cell,?_,fun x c e=>?_,fun p hp=>?_,fun b u e=>?_,I.len⟩
  · rw [upd_ne (ne0 b o e)]; exact I.base.free b o e n hx
  · have:=I.base.tups b xs e
    rw [upd_ne (neH b _ this)]; exact this
  · have:=I.base.frzs b o u e
    rw [upd_ne (neH b _ this)]; exact this
  · obtain ⟨m,this⟩:=I.base.tbls b ps e
    exact ⟨m,by rw [upd_ne (neH b _ this)]; exact this⟩
  · rw [upd_ne (Ne.symm f.loc)]; exact I.free
  · rw [upd_ne (f.cell x c e)]; exact I.freeC x c e
  · obtain ⟨e,n,ne,nf,d⟩:=I.pin p hp
    exact ⟨e,by rw [upd_ne (f.pin p hp)]; exact n,ne,nf,d⟩
  · by_cases z:b = a
    · subst z
      rw [upd_same] at e; cases e
      exact excO_ok f.exc
    · rw [upd_ne z] at e
      refine (I.hok b u e).stay (fun c v _ q=>q) (fun c q=>?_) (fun c xs q=>?_) fun c ob v q=>?_
      · rw [upd_ne (neH c _ q)]; exact q
      · rw [upd_ne (neH c _ q)]; exact q
      · rw [upd_ne (neH c _ q)]; exact q
end
abbrev XR:=Value→St→Hp→Prop
def XP (X:Cx) (pins:List (Addr × Obj)) (R:XR) (e:Value) (s':Shared):Prop:=∃ a cls σ H',e = .ref a∧Inv X pins σ H' s'∧Fly X pins H' s' a cls∧R cls σ H'
abbrev TEx:=St→Hp→VK→(Value→Hp→Prop)→Prop
abbrev TSx:=Ends→XR→St→Hp→Prop
def PEx (X:Cx) (e:Expr) (t:TEx):Prop :=
  ∀ (pins:List (Addr × Obj)) (s:Shared) (σ:St) (H:Hp) (Q:VK) (R:Value→Hp→Prop),Inv X pins σ H s→t σ H Q R→wpAny (model X.prog X.w) X.A (eval e X.env) (EP X pins σ Q) (XP X pins fun cls σ' H'=>σ' = σ∧R cls H') s
def PS1x (X:Cx) (st:Stmt) (t:TSx):Prop :=
  ∀ (pins:List (Addr × Obj)) (s:Shared) (σ:St) (H:Hp) (D:Ends) (R:XR),Inv X pins σ H s→t D R σ H→wpAny (model X.prog X.w) X.A (exec st X.env) (SP X pins D) (XP X pins R) s
def PSx (X:Cx) (st:List Stmt) (t:TSx):Prop :=
  ∀ (pins:List (Addr × Obj)) (s:Shared) (σ:St) (H:Hp) (D:Ends) (R:XR),Inv X pins σ H s→t D R σ H→wpAny (model X.prog X.w) X.A (execs st X.env) (SP X pins D) (XP X pins R) s
section
variable {X:Cx} {e:Expr} {te:TE} {tx:TEx} {st:Stmt} {rest:List Stmt} {ts:TS} {t u:TSx} {pos pos':Pos}
def xDrop (tx:TEx):TSx:=fun D R σ H=>tx σ H (fun _ H1=>D.nx σ H1) fun cls H'=>R cls σ H'
theorem psx_expr (he:PEx X e tx) (hs:swapsWith e none pos.line X.env = pure false:=by rfl):PS1x X (.Expr e pos) (xDrop tx):=by
  intro pins s σ H D R I h
  refine wpAny_Expr_any (wpAny_mono (he pins s σ H _ _ I h) (fun v s1 ⟨x,H1,I1,r1,q1⟩=>⟨σ,H1,I1,q1⟩) fun v s1 ⟨a,cls,σ',H',e1,I1,f,e2,q⟩=>?_) I.quiet hs
  subst e2
  exact ⟨a,cls,_,H',e1,I1,f,q⟩
theorem psxs_one (h1:PS1x X st t):PSx X [st] t:=by
  intro pins s σ H D R I h
  refine wpAny_execs_cons (thn (h1 pins s σ H D R I h) fun f s1 q=>?_)
  cases f with
  | next=>exact wpAny_execs_nil q
  | ret v=>exact q
  | brk=>exact q
  | cont=>exact q
end
section
variable {X:Cx} {k:Nat} {f C:Addr} {fd:FuncData} {ps:List Str} {sp:Sp} {dvs:List V} {ds:List Value} {x m:Str} {p pos apos:Pos} {e o:Expr} {es:List Expr} {ta:TE} {t:TA}
theorem xp_of {pins:List (Addr × Obj)} {σ:St} {H:Hp} {s s':Shared} {ev:Value} {R:Value→Hp→Prop} (hex:X.ex = []) (I:Inv X pins σ H s) (h:CXE X.prog X.w X.stack H s (fun cls _ H'=>R cls H') ev s') :
    XP X pins (fun cls σ' H'=>σ' = σ∧R cls H') ev s':=by
  obtain ⟨a,cls,H',rfl,os,bare,un,hok,ha,hn,hx,hE⟩:=h
  exact ⟨a,cls,σ,H',rfl,I.call' (s':=s') (ch:=[]) os un hok bare (fun b z=>absurd z (by simp)),I.fly hex ha hn hx,rfl,hE⟩
theorem run_fnx {pins:List (Addr × Obj)} {σ:St} {H:Hp} {s:Shared} {Q:VK} {R:Value→Hp→Prop} {us:List Value} {vs:List V} (F:FnOk X.prog X.w X.K X.mg X.base (CXE X.prog X.w) k f fd ps sp) (hr:Room k X.A) (hb:Binds X.K fd ps ds) (hd:Vals dvs ds) (hex:X.ex = [])
    (I:Inv X pins σ H s) (r:Vals vs us) (h:sp (vs ++ dvs) H Q fun cls _ H'=>R cls H'):wpAny (model X.prog X.w) X.A (call (.ref f) us) (EP X pins σ Q) (XP X pins fun cls σ' H'=>σ' = σ∧R cls H') s:=by
  have r2:Vals (vs ++ dvs) (us ++ ds):=r.append hd
  have hl:(us ++ ds).length = ps.length:=by rw [← r2.length]; exact F.len _ _ _ _ h
  refine wpAny_call (codeAny_mono (F.run X.A X.stack s H ⟨us,[]⟩ (us ++ ds) (vs ++ dvs) Q _ hr I.env0 (hb s us I.kIn hl) r2 h) fun r s' hq=>?_)
  cases r with
  | error e=>exact xp_of hex I hq
  | ok fl =>
    cases fl with
    | ret u=>exact I.after hq
    | next=>exact False.elim hq
    | brk=>exact False.elim hq
    | cont=>exact False.elim hq
def xCall (sp:Sp) (dvs:List V) (t:TA):TEx:=fun σ H Q R=>t σ H fun vs H1=>sp (vs ++ dvs) H1 Q fun cls _ H'=>R cls H'
def xMeth (C:Addr) (m:Str) (sp:Sp) (dvs:List V) (ta:TE) (t:TA):TEx:=fun σ H Q R=>ta σ H fun x H1=>∃ a dx fs,x = .ref a∧H1 a = some (.ins C dx fs)∧fs.lookup m = none ∧
  t σ H1 fun vs H2=>sp (x :: (vs ++ dvs)) H2 Q fun cls _ H'=>R cls H'
theorem args_nox {α:Type} {pins:List (Addr × Obj)} {σ:St} {H:Hp} {s:Shared} {Qn:List V→Hp→Prop} {Q:List Value→Shared→Prop} {E:Value→Shared→Prop} {cpos:Pos} (ha:PA X.nox es t) (I:Inv X pins σ H s) (h:t σ H Qn)
    (hf:∀ us s1 vs H1,Inv X pins σ H1 s1→Vals vs us→Qn vs H1→Q us s1):wpAny (model X.prog X.w) X.A (spliced (backTo cpos (starEach es X.env))) Q E s :=
  wpAny_mono (ha cpos pins s σ H Qn (I.wish _) h) (fun us s1 ⟨vs,H1,I1,r,q⟩=>hf us s1 vs H1 I1.unwish r q) fun _ _ z=>False.elim z
theorem pex_call (F:FnOk X.prog X.w X.K X.mg X.base (CXE X.prog X.w) k f fd ps sp) (hr:Room k X.A) (hg:Gl X x) (hm:X.mg x = some (.ref f)) (hk:PySem.W.keepIn X.K (.ref f) = true) (hb:Binds X.K fd ps ds) (hd:Vals dvs ds) (hex:X.ex = [])
    (ha:PA X.nox (e :: es) t) (hdb:(x == ("__debug__" : Str)) = false:=by decide) (he:starEach (e :: es) X.env = (false,eval e X.env) :: starEach es X.env:=by rfl) (hpl:(backTo pos (starEach es X.env)).any (·.1) = false:=by rfl) :
    PEx X (.Call (.Name x p) (e :: es) [] pos) (xCall sp dvs t):=by
  intro pins s σ H Q R I h
  refine wpAny_Call_Name_kw (ld_glob I hg hm ?_ hdb)
  refine PySem.W.callWith_K (h₀:=X.base) I.ok.mod.kin hk (args_nox (α:=Unit) ha I h fun us s1 vs H1 I1 r q=>⟨I1.kIn,?_⟩) he hpl
  exact run_fnx F hr hb hd hex I1 r q
theorem pex_meth {pl:Sem Bool} (he:PE X.nox o ta) (c:Cls X.K C) (hm:Meth X.K C m f) (F:FnOk X.prog X.w X.K X.mg X.base (CXE X.prog X.w) k f fd ps sp) (hr:Room k X.A) (hb:Binds X.K fd ps ds) (hd:Vals dvs ds) (hex:X.ex = []) (ha:PA X.nox (e :: es) t)
    (hst:starEach (e :: es) X.env = (false,eval e X.env) :: starEach es X.env:=by rfl) (hpl:(backTo pos (starEach es X.env)).any (·.1) = false:=by rfl)
    (ht:eval (.Call (.Attribute o m apos) (e :: es) [] pos) X.env = (do
      let ov ← eval o X.env
      standAt apos.atName
      let (f,first) ← holding [ov] (getMethod ov m pl)
      callWith pos f first (backTo pos (starEach (e :: es) X.env)) (backToKw pos (keywordEach [] X.env))):=by rfl) :
    PEx X (.Call (.Attribute o m apos) (e :: es) [] pos) (xMeth C m sp dvs ta t):=by
  intro pins s σ H Q R I h
  refine PySem.W.methodCall_KW (pl:=pl) (wpAny_mono (he pins s σ H _ (I.wish _) h) (fun u s1 ⟨x,H1,I1',rx,a,dx,fs,ex,ea,l,q⟩=>?_) fun _ _ z=>False.elim z) ht
  have I1:=I1'.unwish
  subst ex
  obtain rfl:u = Value.ref a:=rx
  refine getmeth_ok I1 ea c hm l ?_
  refine PySem.W.callWith_K (first:=[.ref a]) (h₀:=X.base) I.ok.mod.kin hm.kp (args_nox (α:=Unit) ha I1 q fun us s2 vs H2 I2 r q2=>⟨I2.kIn,?_⟩) hst hpl
  exact run_fnx (us:=.ref a :: us) (vs:=.ref a :: vs) F hr hb hd hex I2 (.cons rfl r) q2
end
end L2
namespace L2
open PySem PySem.Spec PyProof.Rows
abbrev Cx.suite (X:Cx) (a:Addr):Cx:={ X with A:=X.A.mark (some (.ref a)),calm:=false,xe:=fun _ _=>False }
section
variable {X:Cx} {pins:List (Addr × Obj)} {σ:St} {H:Hp} {s:Shared} {a:Addr}
theorem Inv.suite (I:Inv X pins σ H s) (a:Addr):Inv (X.suite a) pins σ H s :=
  ⟨⟨I.ok.mod,I.ok.kind,I.ok.glob,I.ok.blt,I.ok.above,I.ok.inj,I.ok.has,I.ok.cab,(fun z=>nomatch z),I.ok.frames,I.ok.stk,I.ok.exf,I.ok.bs,I.ok.bsz,I.ok.noex,I.ok.exfs,I.ok.funs,I.ok.frf⟩,I.os,I.bare,I.base,I.loc,I.cell,I.free,I.freeC,I.pin,I.hok,I.len⟩
theorem Inv.unsuite (ok:X.Ok) (I:Inv (X.suite a) pins σ H s):Inv X pins σ H s :=
  ⟨ok,I.os,I.bare,I.base,I.loc,I.cell,I.free,I.freeC,I.pin,I.hok,I.len⟩
theorem goes_ok {M:Model} {A:Around} {E:Value→Shared→Prop} {i:Nat} {n:Str} {pos:Pos} {Q:Unit→Shared→Prop} (I:Inv X pins σ H s) (hN:X.N.Nodup) (hi:X.N[i]? = some n) (hk:X.env.kindOf n = some .local)
    (h:∀ s',Inv X pins (σ.set i none) H s'→Q () s'):wpAny M A (do bindName X.env n .none; unbindBehindTheSuite X.env n pos) Q E s:=by
  obtain ⟨m,hn,hl⟩:=id I.loc
  have hcls:(X.env.scope.kind == .class || (X.env.scope.kind == .module && X.env.locals != X.env.globals)) = false:=by rw [I.ok.kind]; rfl
  have hiσ:i < σ.length:=by rw [I.len]; exact (List.getElem?_eq_some_iff.mp hi).1
  have cne:=I.cne
  refine wpAny_nameGoes_keeps hk hn hcls fun h' v hn' hs=>?_
  obtain ⟨oL,_,_,hoL,_⟩:=id hn
  have hok:HOk X.prog X.w H h':=fun b ob e=>by
    refine (I.hok b ob e).stay (fun c w' hc q=>(hs.2 c ?_).trans q) (fun _ q=>q) fun _ _ q=>q
    rintro rfl
    rcases hc with z | hc
    · rw [← z,I.free] at e; cases e
    · rw [I.free] at hc; cases hc
  refine h _ ⟨I.ok,I.os,I.bare,⟨fun b o e n hb hx=>?_,fun b o e n hb hx=>?_,I.base.free,fun b o e hx=>?_,I.base.tups,I.base.frzs,I.base.tbls⟩,⟨_,hn',fun j y v' e1 e2 e3=>?_⟩,fun y c e=>?_,I.free,I.freeC,fun p hp=>?_,hok,by simpa using I.len⟩
  · exact (hs.2 b (Nat.ne_of_lt (Nat.lt_of_lt_of_le (Heap.lt_size e) I.ok.above))).trans (I.base.keep b o e n hb hx)
  · obtain ⟨sl,e1⟩:=I.base.slot b o e n hb hx
    exact ⟨sl,(hs.2 b (Nat.ne_of_lt (Nat.lt_of_lt_of_le (Heap.lt_size e) I.ok.above))).trans e1⟩
  · obtain ⟨o',e1⟩:=I.base.there b o e hx
    exact ⟨o',(hs.2 b (Nat.ne_of_lt (Nat.lt_of_lt_of_le (Heap.lt_size e) I.ok.above))).trans e1⟩
  · by_cases hj:j = i
    · subst hj
      rw [List.getElem?_set_self hiσ] at e2
      cases e2
    · rw [List.getElem?_set_ne (Ne.symm hj)] at e2
      obtain ⟨u',r',q⟩:=hl j y v' e1 e2 e3
      refine ⟨u',r',?_⟩
      rcases q with ⟨k,e⟩ | ⟨k,c,e,z⟩
      · refine .inl ⟨k,?_⟩
        have:y≠n:=fun e=>hj (nodup_ix hN e1 (e ▸ hi))
        simp [this,e]
      · exact .inr ⟨k,c,e,z.sameBut hs (cne y c e)⟩
  · obtain ⟨w',z⟩:=I.cell y c e
    exact ⟨w',z.sameBut hs (cne y c e)⟩
  · obtain ⟨e,n,ne,nf,d⟩:=I.pin p hp
    exact ⟨(hs.2 p.1 ne).trans e,n,ne,nf,d⟩
end
def tTry (K:PySem.W.Frag) (B:Addr) (i:Nat) (tb:TSx) (ts:Addr→TS):TS:=fun D σ H=>tb D (fun cls σ' H'=>∃ C,cls = .ref C∧PySem.W.exmOne K (.ref C) (.ref B) = some true∧∀ a,H' a = none →
  ts a { nx:=fun σ2 H2=>D.nx (σ2.set i none) H2,rt:=D.rt,bk:=fun σ2 H2=>D.bk (σ2.set i none) H2,ct:=fun σ2 H2=>D.ct (σ2.set i none) H2 } (σ'.set i (some (.ref a))) (upd H' a (excO a C))) σ H
section
variable {X:Cx} {i:Nat} {n y:Str} {B:Addr} {body suite:List Stmt} {b₀:Stmt} {tb:TSx} {ts:Addr→TS} {np hp pos:Pos}
theorem met_ok {pins:List (Addr × Obj)} {σ:St} {H:Hp} {s:Shared} {D:Ends} {R:XR} {ev:Value} (hst:X.stack = X.env :: X.outer) (hfr:X.env.frame = some X.env.locals) (hs:∀ a,PSs (X.suite a) (b₀ :: suite) (ts a)) (hg:Gl X y) (hm:X.mg y = some (.ref B))
    (hN:X.N.Nodup) (hi:X.N[i]? = some n) (hk:X.env.kindOf n = some .local)
    (hx:XP X pins (fun cls σ' H'=>∃ C,cls = .ref C∧PySem.W.exmOne X.K (.ref C) (.ref B) = some true∧∀ a,H' a = none →
      ts a { nx:=fun σ2 H2=>D.nx (σ2.set i none) H2,rt:=D.rt,bk:=fun σ2 H2=>D.bk (σ2.set i none) H2,ct:=fun σ2 H2=>D.ct (σ2.set i none) H2 } (σ'.set i (some (.ref a))) (upd H' a (excO a C))) ev s)
    (hdb:(y == ("__debug__" : Str)) = false:=by decide) :
    wpAny (model X.prog X.w) X.A (noteFrame ev X.env) (fun _ s₂=>wpAny (model X.prog X.w) X.A (setFlight ev none) (fun _ s₃=>wpAny (model X.prog X.w) X.A (handleBy ev X.env [.ExceptHandler (some (.Name y np)) (some n) (b₀ :: suite) hp]) (SP X pins D) X.xe s₃) X.xe s₂) X.xe s:=by
  obtain ⟨a,cls,σ,H,rfl,I,fl,C,rfl,hex,hq⟩:=hx
  refine note_s (base:=X.base) (outer:=X.outer) (L:=X.env.locals) (by rw [← hst]; exact I.ok.frames) (by rw [← hst]; exact I.stack) hfr fl.exc fun h' lf=>?_
  rw [← hst] at lf
  have I1:=I.left fl lf
  have fl1:Fly X pins H { s with heap:=h' } a (.ref C):=⟨lf.exc,fl.hn,fl.s0,fl.loc,fl.cell,fl.pin,fl.st⟩
  refine wpAny_handleBy_cons (codeAny_handlers_test (ld_glob (X:=X.suite a) (I1.suite a) hg hm ?_ hdb)) (by intro q; cases q)
  have LT:PySem.W.Looks (model X.prog X.w) h' (typeOf (.ref a)) (.ref C):=by
    obtain ⟨oe,vs,he,hc,_⟩:=lf.exc
    exact hc ▸ (PySem.W.Looks.ld he).andThen .now
  refine (PySem.W.exm_one I1.kIn LT hex) _ _ _ _ (fun _ _ e=>e) ?_
  refine codeAny_handlers_suite_as ?_
  refine land_s fl1.exc fun h2 k2=>?_
  have I2:Inv X pins σ H { s with heap:=h2 }:=I1.kept (t':=s.toks) fun b u q=>(k2 b).trans q
  have fl2:Fly X pins H { s with heap:=h2 } a (.ref C):=⟨fl1.exc.same k2,fl.hn,fl.s0,fl.loc,fl.cell,fl.pin,fl.st⟩
  have I3:=(I2.trackX fl2).suite a
  refine store_ok (X:=X.suite a) (v:=.ref a) I3 hN hi (.inl hk) rfl (fun s4 I4=>?_) (.inr hk)
  refine wpAny_mono (hs a pins s4 _ _ _ I4 (hq a fl.hn)) (fun f s5 hf=>?_) fun _ _ z=>False.elim z
  have fin:∀ {σ2:St} {H2:Hp},Inv (X.suite a) pins σ2 H2 s5→∀ Q:Unit→Shared→Prop,(∀ s',Inv X pins (σ2.set i none) H2 s'→Q () s')→wpAny (model X.prog X.w) X.A (do bindName X.env n .none; unbindBehindTheSuite X.env n hp) Q X.xe s5 :=
    fun J Q hQ=>goes_ok (J.unsuite I.ok) hN hi hk hQ
  cases f with
  | next=>obtain ⟨σ2,H2,J,q⟩:=hf; exact fin J _ fun s' I'=>⟨_,_,I',q⟩
  | brk=>obtain ⟨σ2,H2,J,q⟩:=hf; exact fin J _ fun s' I'=>⟨_,_,I',q⟩
  | cont=>obtain ⟨σ2,H2,J,q⟩:=hf; exact fin J _ fun s' I'=>⟨_,_,I',q⟩
  | ret u=>obtain ⟨v,σ2,H2,J,r,q⟩:=hf; exact fin J _ fun s' I'=>⟨v,_,_,I',r,q⟩
theorem ps_try (hst:X.stack = X.env :: X.outer) (hfr:X.env.frame = some X.env.locals) (hb:PSx X body tb) (hs:∀ a,PSs (X.suite a) (b₀ :: suite) (ts a)) (hg:Gl X y) (hm:X.mg y = some (.ref B))
    (hN:X.N.Nodup) (hi:X.N[i]? = some n) (hk:X.env.kindOf n = some .local) (hdb:(y == ("__debug__" : Str)) = false:=by decide) :
    PS X (.Try body [.ExceptHandler (some (.Name y np)) (some n) (b₀ :: suite) hp] [] [] pos) (tTry X.K B i tb ts):=by
  intro pins s σ H D I h
  refine wpAny_Try_except (wpAny_mono (hb pins s σ H _ _ I h) (fun f s1 q=>?_) fun e s1 q=>met_ok (σ:=σ) (H:=H) (R:=fun _ _ _=>True) hst hfr hs hg hm hN hi hk q hdb)
  cases f with
  | next=>exact wpAny_execs_nil q
  | ret v=>exact q
  | brk=>exact q
  | cont=>exact q
end
end L2
namespace L2
open PySem PySem.Spec PyProof.Rows
abbrev bmVE:List Value:=[.type "ValueError", .type "Exception", .type "BaseException", .type "object"]
def OwnVE (K:PySem.W.Frag) (C:Addr):Prop:=PySem.W.excIn K C bmVE "ValueError.__new__" = true
theorem own_obj {K:PySem.W.Frag} {h:Heap} {C:Addr} {bmB:List Value} {newId:String} (X:K.In h) (q:PySem.W.excIn K C bmB newId = true):∃ bm N nm q bs hdct sn sub ab col dd k0 k1 k2 k3 k5 mN,h.get? C = some (excClassObj nm q C N bs bm hdct sn sub ab col dd k0 k1 k2 k3 k5 newId)∧h.Ns N mN∧mN "__init__" = none∧OwnTail h bmB bm:=by
  unfold PySem.W.excIn at q
  split at q
  · rename_i dd cd sl ho
    split at q
    · rename_i C' bm k0 k1 k2 k3 n k5 hm hs
      simp only [Bool.and_eq_true,beq_iff_eq,Bool.not_eq_true'] at q
      obtain ⟨⟨⟨⟨⟨rfl,rfl⟩,hdel⟩,ht⟩,hok⟩,hni⟩:=q
      obtain ⟨nm,bs,mro,ns,qn,hd,sn,sub,ab,col,del⟩:=cd
      dsimp only at hm hdel hok hni
      subst hm hdel
      have hsl:sl = #[k0,k1,k2,k3,some (.builtin n),k5]:=by
        obtain ⟨l⟩:=sl
        simp only at hs
        rw [hs]
      subst hsl
      exact ⟨bm,ns,nm,qn,bs,hd,sn,sub,ab,col,dd,k0,k1,k2,k3,k5,_,X _ _ ho,.of_isNs (PySem.W.isNs_of_in X hok),PySem.W.nsMap_none_of_in X hok hni,PySem.W.tail_of_in X ht⟩
    · cases q
  · cases q
theorem ObjOk.get {P:Program} {w:World} {H:Hp} {h:Heap} {a:Addr} {o:HO} (x:ObjOk P w H h a o):∃ ob,h.get? a = some ob:=by
  cases o with
  | lst xs=>obtain ⟨_,_,_,_,e⟩:=x; exact ⟨_,e⟩
  | tup xs=>obtain ⟨_,_,_,ob,e,_⟩:=x; exact ⟨_,e⟩
  | dK kvs=>obtain ⟨_,_,_,_,o,_,_,e,_⟩:=x; exact ⟨_,e⟩
  | dT kvs=>obtain ⟨_,_,_,_,o,_,_,e,_⟩:=x; exact ⟨_,e⟩
  | set S n=>obtain ⟨o,_,_,_,e,_⟩:=x; exact ⟨_,e⟩
  | ins C dx fs=>obtain ⟨_,_,_,e,_⟩:=x; exact ⟨_,e⟩
  | own y=>obtain ⟨_,e⟩:=x; exact ⟨_,e⟩
  | xd fs=>obtain ⟨_,⟨_,_,_,e,_⟩,_⟩:=x; exact ⟨_,e⟩
  | rng lo hi=>obtain ⟨_,_,_,e⟩:=x; exact ⟨_,e⟩
  | frz ob u=>obtain ⟨e,_⟩:=x; exact ⟨_,e⟩
  | tbl ps=>obtain ⟨_,e,_⟩:=x; exact ⟨_,e⟩
  | met f y=>exact ⟨_,(show h.get? a = some _ from x)⟩
  | ext φ=>obtain ⟨_,⟨_,e⟩,_⟩:=x; exact ⟨_,e⟩
theorem HOk.off {P:Program} {w:World} {H:Hp} {h:Heap} {a:Addr} (x:HOk P w H h) (e:h.get? a = none):H a = none:=by
  cases q:H a with
  | none=>rfl
  | some u =>
    obtain ⟨ob,z⟩:=(x a u q).get
    rw [e] at z; cases z
def Raises (X:Cx) (E:XK):Prop:=∀ (pins:List (Addr × Obj)) (σ:St) (H:Hp) (s:Shared) (a:Addr) (cls:Value),Inv X pins σ H s→ExcO s.heap a cls→X.s₀.heap.get? a = none→H a = none→E cls none H→X.xe (.ref a) s
def tRaise (C:Addr) (E:XK) (t:TA):TS:=fun _ σ H=>t σ H fun vs H1=>vs.length≤sizeLine∧E (.ref C) none H1
theorem raisesE {P:Program} {w:World} {K:PySem.W.Frag} {mg:Str→Option Value} {base:Heap} {N:List Str} {qual:Str} {scope:Scope} {f:Addr} {cd:Value} {A:Around} {outer:List Env} {s0:Shared} {H0:Hp} {E:XK} :
    Raises (cxOf (CXE P w) P w K mg base N qual scope f cd A outer s0 H0 E) E:=fun pins σ H s a cls I hx ha hn hE=>xe_of I hx ha hn hE
section
variable {X:Cx} {C:Addr} {E:XK} {x:Str} {e₀:Expr} {rest:List Expr} {t:TA} {np cpos pos:Pos}
theorem ps_raise (hc:X.calm = true) (hex:X.ex = []) (own:OwnVE X.K C) (hg:Gl X x) (hm:X.mg x = some (.ref C)) (hE:Raises X E) (ha:PA X (e₀ :: rest) t)
    (hd:(x == ("__debug__" : Str)) = false:=by decide) (he:starEach (e₀ :: rest) X.env = (false,eval e₀ X.env) :: starEach rest X.env:=by rfl) (hplain:(backTo cpos (starEach rest X.env)).any (·.1) = false:=by rfl) :
    PS X (.Raise (some (.Call (.Name x np) (e₀ :: rest) [] cpos)) none pos) (tRaise C E t):=by
  intro pins s σ H D I h
  obtain ⟨tl,N,nm,q,bs,hdct,sn,sub,ab,col,dd,k0,k1,k2,k3,k5,mN,hC,hN,hni,T⟩:=own_obj I.mod.kin own
  have FB:=PySem.F.excBase_ValueError
  refine wpAny_Raise_call_subT (C:=C) (nm:=nm) (q:=q) (N:=N) (bs:=bs) (bm:=tl) (hdct:=hdct) (sn:=sn) (sub:=sub) (ab:=ab) (col:=col) (dd:=dd) (k0:=k0) (k1:=k1) (k2:=k2) (k3:=k3) (k5:=k5)
    FB (mN:=mN) (T.hasType FB.hasBase) (I.ok.hd hc) (by rw [he]; show (false || (backTo cpos (starEach rest X.env)).any (·.1)) = false; rw [hplain]; rfl) hni (ld_glob I hg hm ⟨rfl,?_⟩ hd)
  have hA:=thn (ha cpos pins s σ H _ I h) (Q':=fun us s2=>us.length≤sizeLine∧(∀ b o,X.base.get? b = some o→s2.heap.get? b = some o)∧∀ h' e,Heap.MadeExcOf s2.heap h' e (.ref C) us→X.xe (.ref e) { s2 with heap:=h' }) fun us s2 ⟨vs,H1,I1,r,hl,hq⟩=>by
    refine ⟨by rw [← r.length]; exact hl,I1.bk,fun h' e mk=>?_⟩
    obtain ⟨t,h1,h2,h3⟩:=mk.there
    have hn:=I1.hok.off mk.new
    exact hE pins σ H1 _ e (.ref C) (I1.kept (t':=s2.toks) mk.keeps) ⟨_,_,h1,rfl,rfl,rfl,by rfl,.inl (by rfl)⟩ (I1.fresh0 hex mk.new) hn hq
  rw [he] at hA ⊢
  exact Calls.evalArgs_plain (wpAny_mono hA (fun vs s₂ h₂=>⟨rfl,h₂.1,h₂.2.1 _ _ hC,hN.keeps h₂.2.1,T.keeps h₂.2.1,h₂.2.2⟩) fun _ _ y=>y)
end
end L2
namespace L2
open PySem PySem.Spec PyProof.Rows
section
variable {X:Cx} {tg:Expr} {e:Addr}
def clsV:V→Value
  | .ref a=>.ref a
  | .ty n=>.type n
  | _=>.none
def isCV:V→Bool
  | .ref _=>true
  | .ty _=>true
  | _=>false
theorem call_isiX {K:PySem.W.Frag} (hK:X.K = K):CallR X (.builtin "isinstance") (fun xs H Q=>∃ a D c b,xs = [.ref a,c]∧H a = some (excO a D)∧XCls K D∧isCV c = true∧PySem.W.kitOne K (.ref D) (clsV c) = some b∧Q (.bl b) H):=by
  subst hK
  rintro pins s σ H xs us Q I r ⟨a,D,c,b,rfl,ha,cl,ic,ek,q⟩
  cases r with
  | cons r1 r2 =>
    cases r2 with
    | cons r3 r4 =>
      cases r4
      rename_i u1 u2
      obtain ⟨o,vs,J,_⟩:=Rd.exc I.hok ha
      have eu1:u1 = Value.ref a:=r1
      subst eu1
      have eu:u2 = clsV c:=by
        cases c with
        | ref a=>exact r3
        | ty n=>exact r3
        | _=>cases ic
      subst eu
      exact PySem.W.kia_one (kitx_exc cl) I.kIn ⟨o,J⟩ ek (fun z=>nomatch z) fun tk=>⟨.bl b,H,I.tok _,rfl,q⟩
end
structure RoomH (k:Nat) (A:Around):Prop where
  gd:A.guards = some []
  dp:A.depth + 3 * k + 5 < recursionLimit
  un:A.units + 16 * k + 200 < cLine
theorem RoomH.of {k:Nat} {A:Around} (r:Room k A) (v:Option Value):RoomH k (A.mark v):=⟨r.gd,r.dp,r.un⟩
structure FnOkH (P:Program) (w:World) (K:PySem.W.Frag) (mg:Str→Option Value) (base:Heap) (ex:Addr) (k:Nat) (f:Addr) (fd:FuncData) (ps:List Str) (sp:Sp):Prop where
  len:∀ vs H Q E,sp vs H Q E→vs.length = ps.length
  run:∀ (A:Around) (outer:List Env) (s:Shared) (H:Hp) (args:Args) (us:List Value) (vs:List V) (Q:VK) (E:XK),RoomH k A→A.handled = some (.ref ex)→Env0 P w K mg base A outer s H→BindsTo s fd args (ps.zip us)→Vals vs us→sp vs H Q E →
    codeAny (model P w) A (.call (.ref f) args) (CR CX0 outer P w H s Q E) s
abbrev cxOfH (P:Program) (w:World) (K:PySem.W.Frag) (mg:Str→Option Value) (base:Heap) (N:List Str) (qual:Str) (scope:Scope) (f:Addr) (cd:Value) (A:Around) (outer:List Env) (s:Shared) (H:Hp) (E:XK):Cx :=
  { cxOf CX0 P w K mg base N qual scope f cd A outer s H E with calm:=false }
theorem fn_ofH {P:Program} {w:World} {K:PySem.W.Frag} {mg:Str→Option Value} {base:Heap} {ex:Addr} {k:Nat} {f:Addr} {name qual:Str} {params:Arguments} {body:List Stmt} {scope:Scope} {dV kV doc pm cdv ct oc:Value} {an od:Option Addr}
    {osl:Array (Option Value)} {N ps:List Str} {sp:Sp} (lk:K.lookup f = some ⟨oc,od,.func (PySem.W.fnOf name qual params body scope dV kV doc pm an cdv ct),osl⟩) (hcd:PySem.W.codeIn K cdv qual = true) (S:FnScope N ps scope)
    (len:∀ vs H Q E,sp vs H Q E→vs.length = ps.length)
    (hbody:∀ (A:Around) (outer:List Env) (s:Shared) (H:Hp) (vs:List V) (Q:VK) (E:XK),RoomH k (A.deeper (envOfC qual scope s.heap.objs.size f cdv))→A.handled = some (.ref ex)→sp vs H Q E →
      ∃ t,PSs (cxOfH P w K mg base N qual scope f cdv A outer s H E) body t∧t { nx:=fun _ H'=>Q .non H',rt:=Q } (start N vs) H) :
    FnOkH P w K mg base ex (k + 1) f (PySem.W.fnOf name qual params body scope dV kV doc pm an cdv ct) ps sp:=by
  refine ⟨len,fun A outer s H args us vs Q E hr hh e0 hb r hsp=>?_⟩
  have hl:=len _ _ _ _ hsp
  have KX:K.In s.heap:=e0.mod.kin.keeps fun b o e=>(e0.bs b o e).1
  have lim:s.heap.NoLimit:=e0.mod.nolimit.keeps fun b o e=>(e0.bs b o e).1
  have hkind:∀ y∈ps.zip us,scope.names.lookup y.1 = some .local∨(scope.names.lookup y.1 = some .cell∧((cellsFrom (s.heap.objs.size + 1) scope.names []).lookup y.1).isSome = true):=fun ⟨n,v⟩ hy=>by
    rcases S.par n (List.of_mem_zip hy).1 with q | q
    · exact .inl q
    · exact .inr ⟨q,PySem.W.cellsFrom_some _ _ _ (.inl q)⟩
  refine codeAny_call_function (by have:=hr.dp; omega) (KX _ _ lk) rfl S.co S.gen rfl (PySem.W.codeRec_of KX hcd) (hb _ _ _ _ ?_)
  refine wpAny_newFunctionEnv_cells S.kind hkind fun env he s1 x=>?_
  subst he
  refine ⟨lim.keeps x.toInCall.keep,codeAny_func ?_⟩
  have hrd:RoomH k (A.deeper (envOfC qual scope s.heap.objs.size f cdv)):=⟨hr.gd,by have:=hr.dp; show A.depth + 1 + 3 * k + 5 < _; omega,by have:=hr.un; show A.units + 3 + 16 * k + 200 < _; omega⟩
  obtain ⟨t,ht,hq⟩:=hbody A outer s H vs Q E hrd hh hsp
  have e1:Env0 P w K mg base { A with handled:=none } outer s H:=⟨e0.frames,e0.mod,e0.bs,e0.bsz,e0.funs,e0.frf,e0.hok,e0.bare⟩
  have I0:Inv (cxOf CX0 P w K mg base N qual scope f cdv { A with handled:=none } outer s H E) [] (start N vs) H s1:=inv_start S rfl e1 hl r x
  have I:Inv (cxOfH P w K mg base N qual scope f cdv A outer s H E) [] (start N vs) H s1 :=
    ⟨⟨I0.ok.mod,I0.ok.kind,I0.ok.glob,I0.ok.blt,I0.ok.above,I0.ok.inj,I0.ok.has,I0.ok.cab,(fun z=>nomatch z),I0.ok.frames,I0.ok.stk,I0.ok.exf,I0.ok.bs,I0.ok.bsz,I0.ok.noex,I0.ok.exfs,I0.ok.funs,I0.ok.frf⟩,I0.os,I0.bare,I0.base,I0.loc,I0.cell,I0.free,I0.freeC,I0.pin,I0.hok,I0.len⟩
  refine wpAny_mono (ht [] s1 (start N vs) H _ I hq) (fun fl s' hs=>?_) fun e s' hs=>hs
  have fin:∀ {σ':St} {H':Hp} {v:V} {u:Value},Inv (cxOfH P w K mg base N qual scope f cdv A outer s H E) [] σ' H' s'→RelV v u→Q v H'→CE outer P w H s Q u s' :=
    fun {σ' H' v u} J rv q=>⟨v,H',J.os,J.bare,J.base,J.hok,rv,q⟩
  cases fl with
  | ret u =>
    obtain ⟨v,σ',H',J,rv,q⟩:=hs
    exact fin J rv q
  | next =>
    obtain ⟨σ',H',J,q⟩:=hs
    exact fin (v:=V.non) (u:=Value.none) J rfl q
  | brk =>
    obtain ⟨_,_,_,q⟩:=hs
    exact False.elim q
  | cont =>
    obtain ⟨_,_,_,q⟩:=hs
    exact False.elim q
theorem Fun.okH {P:Program} {w:World} {K:PySem.W.Frag} {mg:Str→Option Value} {base:Heap} {ex:Addr} {x qual:Str} {st:Stmt} {f:Addr} {fd:FuncData} {N ps:List Str} {k:Nat} {sp:Sp} (F:Fun K x qual st f fd) (S:FnScope N ps (defScope st)) (len:∀ vs H Q E,sp vs H Q E→vs.length = ps.length)
    (hbody:∀ (cdv:Value) (A:Around) (outer:List Env) (s:Shared) (H:Hp) (vs:List V) (Q:VK) (E:XK),RoomH k (A.deeper (envOfC qual (defScope st) s.heap.objs.size f cdv))→A.handled = some (.ref ex)→sp vs H Q E →
      ∃ t,PSs (cxOfH P w K mg base N qual (defScope st) f cdv A outer s H E) (defBody st) t∧t { nx:=fun _ H'=>Q .non H',rt:=Q } (start N vs) H):FnOkH P w K mg base ex (k + 1) f fd ps sp:=by
  obtain ⟨oc,od,kV,doc,pm,an,cdv,ct,osl,rfl,lk,hcd⟩:=F.ex
  exact fn_ofH lk hcd S len fun A outer s H vs Q E hr hh hsp=>hbody cdv A outer s H vs Q E hr hh hsp
section
variable {X:Cx} {k:Nat} {f ex:Addr} {fd:FuncData} {ps:List Str} {sp:Sp} {dvs:List V} {ds:List Value} {x:Str} {p pos:Pos} {e:Expr} {es:List Expr} {t:TA} {E:XK}
theorem pe_callH (F:FnOkH X.prog X.w X.K X.mg X.base ex k f fd ps sp) (hr:RoomH k X.A) (hh:X.A.handled = some (.ref ex)) (hg:Gl X x) (hm:X.mg x = some (.ref f)) (hk:PySem.W.keepIn X.K (.ref f) = true) (hb:Binds X.K fd ps ds) (hd:Vals dvs ds)
    (ha:PA X (e :: es) t) (hdb:(x == ("__debug__" : Str)) = false:=by decide) (he:starEach (e :: es) X.env = (false,eval e X.env) :: starEach es X.env:=by rfl) (hpl:(backTo pos (starEach es X.env)).any (·.1) = false:=by rfl) :
    PE X (.Call (.Name x p) (e :: es) [] pos) (tCall sp dvs E t):=by
  intro pins s σ H Q I h
  refine wpAny_Call_Name_kw (ld_glob I hg hm ?_ hdb)
  refine PySem.W.callWith_K (h₀:=X.base) I.ok.mod.kin hk (thn (ha pos pins s σ H _ I h) fun us s1 ⟨vs,H1,I1,r,q⟩=>⟨I1.kIn,?_⟩) he hpl
  have r2:Vals (vs ++ dvs) (us ++ ds):=r.append hd
  have hl:(us ++ ds).length = ps.length:=by rw [← r2.length]; exact F.len _ _ _ _ q
  refine wpAny_call (codeAny_mono (F.run X.A X.stack s1 H1 ⟨us,[]⟩ (us ++ ds) (vs ++ dvs) Q E hr hh I1.env0 (hb s1 us I1.kIn hl) r2 q) fun r s' hq=>?_)
  cases r with
  | error e=>exact hq.elim
  | ok fl =>
    cases fl with
    | ret u=>exact I1.after hq
    | next=>exact False.elim hq
    | brk=>exact False.elim hq
    | cont=>exact False.elim hq
end
end L2
namespace L2
open PySem PySem.Spec PyProof.Rows
abbrev TF:=St→Hp→(Hp→Prop)→Prop
def PF (X:Cx) (e:Expr) (t:TF):Prop :=
  ∀ (pins:List (Addr × Obj)) (s:Shared) (σ:St) (H:Hp) (Q:Hp→Prop),Inv X pins σ H s→t σ H Q→wpAny (model X.prog X.w) X.A (eval e X.env) (fun v s1=>∃ y tk H1,v = .str y tk∧y.length≤3000∧Inv X pins σ H1 s1∧Q H1) X.xe s
def PFs (X:Cx) (es:List Expr) (t:TF):Prop :=
  ∀ (acc:Str) (n:Nat) (pins:List (Addr × Obj)) (s:Shared) (σ:St) (H:Hp) (Q:Hp→Prop),acc.length≤3000 * n→n + es.length≤100→Inv X pins σ H s→t σ H Q →
    Joins (model X.prog X.w) X.A X.xe (evalEach es X.env) acc (fun out s1=>out.length≤sizeLine∧∃ H1,Inv X pins σ H1 s1∧Q H1) s
section
variable {X:Cx} {e v₁ v₂:Expr} {es rest:List Expr} {t u:TF} {te:TE} {pos:Pos}
def fTxt:TF:=fun _ H Q=>Q H
theorem pf_str {x:Str} {j pos} (hx:x.length≤3000:=by decide):PF X (.Constant (.str x) j pos) fTxt:=fun _ _ _ H _ I h=>Calls.Constant_str ⟨x,_,H,rfl,hx,I.tok _,h⟩
def fNil:TF:=fun _ H Q=>Q H
def fCons (t u:TF):TF:=fun σ H Q=>t σ H fun H1=>u σ H1 Q
theorem pfs_nil:PFs X [] fNil:=fun acc n pins s σ H Q ha hn I h=>⟨by rw [sizeLine_eq]; have:n≤100:=hn; omega,H,I,h⟩
theorem pfs_cons (h1:PF X e t) (h2:PFs X es u):PFs X (e :: es) (fCons t u):=by
  intro acc n pins s σ H Q ha hn I h
  show wpAny _ _ (eval e X.env) _ _ s
  refine thn (h1 pins s σ H _ I h) fun v s1 ⟨y,tk,H1,ev,hy,I1,q⟩=>⟨y,tk,ev,?_,?_⟩
  · rw [strLen_append,sizeLine_eq]
    have:n + (es.length + 1)≤100:=hn
    omega
  · refine h2 (acc ++ y) (n + 1) pins s1 σ H1 Q ?_ ?_ I1 q
    · rw [strLen_append]; omega
    · have:n + (es.length + 1)≤100:=hn
      omega
def tFst (t:TF):TE:=fun σ H Q=>t σ H fun H1=>∀ x:Str,Q (.str x) H1
theorem pe_fst (h:PFs X (v₁ :: v₂ :: rest) t) (hn:rest.length≤90:=by decide):PE X (.JoinedStr (v₁ :: v₂ :: rest) pos) (tFst t):=by
  intro pins s σ H Q I hq
  refine wpAny_JoinedStr ?_
  have:=h Str.empty 0 pins s σ H _ (by decide) (by show 0 + (rest.length + 1 + 1)≤100; omega) I hq
  refine joins_mono _ _ this fun out s1 ⟨hz,H1,I1,q⟩=>⟨hz,.str out,H1,I1.tok _,⟨_,rfl⟩,q out⟩
where
  joins_mono {M:Model} {A:Around} {E:Value→Shared→Prop} {Q Q':Str→Shared→Prop}:∀ (l:List (Sem Value)) (acc:Str) {s:Shared},Joins M A E l acc Q s→(∀ o s,Q o s→Q' o s)→Joins M A E l acc Q' s
    | [],_,_,h,k=>k _ _ h
    | _ :: r,acc,_,h,k=>wpAny_mono h (fun _ _ ⟨y,t,e,z,q⟩=>⟨y,t,e,z,joins_mono r (acc ++ y) q k⟩) fun _ _ z=>z
end
end L2
namespace L2
open PySem PySem.Spec PyProof.Rows
theorem bt_ValueError:bootBuiltins "ValueError" = some (.type "ValueError"):=by decide +kernel
structure AskC (K:PySem.W.Frag) (C:Addr):Prop where
  cl:(PySem.W.clsIn K C).isSome = true
  ty:PySem.W.typeIn K (.ref C) = some (.type "type")
structure ExcB (K:PySem.W.Frag) (B:Addr):Prop where
  cl:(PySem.W.clsIn K B).isSome = true
  ty:PySem.W.typeIn K (.ref B) = some (.type "type")
  bx:PySem.W.mroIn K B (.type "BaseException") = some true
structure ExcC (K:PySem.W.Frag) (B D:Addr):Prop where
  own:OwnVE K D
  ga:PySem.W.findIn K (.ref D) "__getattribute__" = some (some (.builtin "BaseException.__getattribute__"))
  gt:PySem.W.findIn K (.ref D) "__getattr__" = some none
  ca:PySem.W.findIn K (.ref D) "__class__" = some (some (.builtin "object.__class__"))
  mro:(PySem.W.clsIn K D).map (·.mro) = some (.ref D :: .ref B :: bmVE)
section
variable {K:PySem.W.Frag} {B C D:Addr}
theorem ExcC.mroIn (x:ExcC K B D) (v:Value):PySem.W.mroIn K D v = some ((Value.ref D :: .ref B :: bmVE).contains v):=by
  have m:=x.mro
  unfold PySem.W.mroIn
  cases h:PySem.W.clsIn K D with
  | none=>rw [h] at m; cases m
  | some cd =>
    rw [h] at m
    have e:cd.mro = .ref D :: .ref B :: bmVE:=Option.some.inj m
    show (if cd.mro.isEmpty = true then none else some (cd.mro.contains v)) = _
    rw [e]
    rfl
theorem ExcC.xcls (x:ExcC K B D):XCls K D:=⟨x.ga,x.gt,x.ca,by rw [x.mroIn]; rfl,by rw [x.mroIn]; rfl,by
  have m:=x.mro
  cases h:PySem.W.clsIn K D with
  | none=>rw [h] at m; cases m
  | some cd=>rfl⟩
theorem kitCls_ref (q:AskC K C) (t:Value):PySem.W.kitCls K t (.ref C) = PySem.W.subIn K t (.ref C):=by
  show (if ((PySem.W.clsIn K C).isSome && PySem.W.typeIn K (.ref C) == some (.type "type")) = true then PySem.W.subIn K t (.ref C) else none) = _
  rw [if_pos (by rw [q.cl,q.ty]; rfl)]
theorem kit_self:PySem.W.kitOne K (.ref D) (.ref D) = some true:=by
  unfold PySem.W.kitOne
  rw [if_pos (by simp)]
theorem kit_ne (x:ExcC K B D) (q:AskC K C) (h1:D≠C) (h2:B≠C):PySem.W.kitOne K (.ref D) (.ref C) = some false:=by
  unfold PySem.W.kitOne
  rw [if_neg (by simpa using h1),kitCls_ref q]
  show PySem.W.mroIn K D (.ref C) = some false
  rw [x.mroIn]
  have e1:(Value.ref C == Value.ref D) = false:=by simpa using Ne.symm h1
  have e2:(Value.ref C == Value.ref B) = false:=by simpa using Ne.symm h2
  rw [List.contains_cons,List.contains_cons,e1,e2]
  rfl
theorem kit_eq (x:ExcC K B D) (q:AskC K C) (h2:B≠C):PySem.W.kitOne K (.ref D) (.ref C) = some (decide (D = C)):=by
  by_cases z:D = C
  · subst z; rw [kit_self]; simp
  · rw [kit_ne x q z h2]; simp [z]
theorem kit_ve (x:ExcC K B D):PySem.W.kitOne K (.ref D) (.type "ValueError") = some true:=by
  unfold PySem.W.kitOne
  rw [if_neg (by simp)]
  unfold PySem.W.kitCls
  have h:PySem.W.kitMeta "ValueError" = true:=by decide +kernel
  show (if PySem.W.kitMeta "ValueError" = true then PySem.W.subIn K (.ref D) (.type "ValueError") else none) = _
  rw [if_pos h]
  show PySem.W.mroIn K D (.type "ValueError") = _
  rw [x.mroIn]
  rfl
theorem exm_of (b:ExcB K B) (x:ExcC K B D):PySem.W.exmOne K (.ref D) (.ref B) = some true:=by
  unfold PySem.W.exmOne
  have e:PySem.W.subIn K (.ref B) (.type "BaseException") = some true:=b.bx
  rw [e,if_pos (by rfl),kitCls_ref ⟨b.cl,b.ty⟩]
  show PySem.W.mroIn K D (.ref B) = _
  rw [x.mroIn]
  simp
end
def tTry0 (K:PySem.W.Frag) (B:Addr) (tb:TSx) (ts:Addr→TS):TS:=fun D σ H=>tb D (fun cls σ' H'=>∃ C,cls = .ref C∧PySem.W.exmOne K (.ref C) (.ref B) = some true∧∀ a,H' a = none→ts a D σ' (upd H' a (excO a C))) σ H
section
variable {X:Cx} {y:Str} {B:Addr} {body suite:List Stmt} {b₀:Stmt} {tb:TSx} {ts:Addr→TS} {np hp pos:Pos}
theorem met_ok0 {pins:List (Addr × Obj)} {s:Shared} {D:Ends} {ev:Value} (hst:X.stack = X.env :: X.outer) (hfr:X.env.frame = some X.env.locals) (hs:∀ a,PSs (X.suite a) (b₀ :: suite) (ts a)) (hg:Gl X y) (hm:X.mg y = some (.ref B))
    (hx:XP X pins (fun cls σ' H'=>∃ C,cls = .ref C∧PySem.W.exmOne X.K (.ref C) (.ref B) = some true∧∀ a,H' a = none→ts a D σ' (upd H' a (excO a C))) ev s)
    (hdb:(y == ("__debug__" : Str)) = false:=by decide) :
    wpAny (model X.prog X.w) X.A (noteFrame ev X.env) (fun _ s₂=>wpAny (model X.prog X.w) X.A (setFlight ev none) (fun _ s₃=>wpAny (model X.prog X.w) X.A (handleBy ev X.env [.ExceptHandler (some (.Name y np)) none (b₀ :: suite) hp]) (SP X pins D) X.xe s₃) X.xe s₂) X.xe s:=by
  obtain ⟨a,cls,σ,H,rfl,I,fl,C,rfl,hex,hq⟩:=hx
  refine note_s (base:=X.base) (outer:=X.outer) (L:=X.env.locals) (by rw [← hst]; exact I.ok.frames) (by rw [← hst]; exact I.stack) hfr fl.exc fun h' lf=>?_
  rw [← hst] at lf
  have I1:=I.left fl lf
  have fl1:Fly X pins H { s with heap:=h' } a (.ref C):=⟨lf.exc,fl.hn,fl.s0,fl.loc,fl.cell,fl.pin,fl.st⟩
  refine wpAny_handleBy_cons (codeAny_handlers_test (ld_glob (X:=X.suite a) (I1.suite a) hg hm ?_ hdb)) (by intro q; cases q)
  have LT:PySem.W.Looks (model X.prog X.w) h' (typeOf (.ref a)) (.ref C):=by
    obtain ⟨oe,vs,he,hc,_⟩:=lf.exc
    exact hc ▸ (PySem.W.Looks.ld he).andThen .now
  refine (PySem.W.exm_one I1.kIn LT hex) _ _ _ _ (fun _ _ e=>e) ?_
  refine codeAny_handlers_suite ?_
  refine land_s fl1.exc fun h2 k2=>?_
  have I2:Inv X pins σ H { s with heap:=h2 }:=I1.kept (t':=s.toks) fun b u q=>(k2 b).trans q
  have fl2:Fly X pins H { s with heap:=h2 } a (.ref C):=⟨fl1.exc.same k2,fl.hn,fl.s0,fl.loc,fl.cell,fl.pin,fl.st⟩
  have I3:=(I2.trackX fl2).suite a
  refine wpAny_mono (hs a pins _ _ _ _ I3 (hq a fl.hn)) (fun f s5 hf=>?_) fun _ _ z=>False.elim z
  cases f with
  | next=>obtain ⟨σ2,H2,J,q⟩:=hf; exact ⟨_,_,J.unsuite I.ok,q⟩
  | brk=>obtain ⟨σ2,H2,J,q⟩:=hf; exact ⟨_,_,J.unsuite I.ok,q⟩
  | cont=>obtain ⟨σ2,H2,J,q⟩:=hf; exact ⟨_,_,J.unsuite I.ok,q⟩
  | ret u=>obtain ⟨v,σ2,H2,J,r,q⟩:=hf; exact ⟨v,_,_,J.unsuite I.ok,r,q⟩
theorem ps_try0 (hst:X.stack = X.env :: X.outer) (hfr:X.env.frame = some X.env.locals) (hb:PSx X body tb) (hs:∀ a,PSs (X.suite a) (b₀ :: suite) (ts a)) (hg:Gl X y) (hm:X.mg y = some (.ref B))
    (hdb:(y == ("__debug__" : Str)) = false:=by decide) :
    PS X (.Try body [.ExceptHandler (some (.Name y np)) none (b₀ :: suite) hp] [] [] pos) (tTry0 X.K B tb ts):=by
  intro pins s σ H D I h
  refine wpAny_Try_except (wpAny_mono (hb pins s σ H _ _ I h) (fun f s1 q=>?_) fun e s1 q=>met_ok0 hst hfr hs hg hm q hdb)
  cases f with
  | next=>exact wpAny_execs_nil q
  | ret v=>exact q
  | brk=>exact q
  | cont=>exact q
end
end L2
namespace L2
open PySem PySem.Spec PyProof.Rows
theorem askC_mk {K:PySem.W.Frag} {C:Addr} (cl:PySem.W.isClsIn K C = true) (ty:PySem.W.typeIn K (.ref C) = some (.type "type")):AskC K C:=⟨cl,ty⟩
theorem excB_mk {K:PySem.W.Frag} {C:Addr} (cl:PySem.W.isClsIn K C = true) (ty:PySem.W.typeIn K (.ref C) = some (.type "type")) (bx:PySem.W.mroIn K C (.type "BaseException") = some true):ExcB K C:=⟨cl,ty,bx⟩
theorem excC_mk {K:PySem.W.Frag} {B C:Addr} (ow:PySem.W.excIn K C bmVE "ValueError.__new__" = true) (ga:PySem.W.findIn K (.ref C) "__getattribute__" = some (some (.builtin "BaseException.__getattribute__"))) (gt:PySem.W.findIn K (.ref C) "__getattr__" = some none) (ca:PySem.W.findIn K (.ref C) "__class__" = some (some (.builtin "object.__class__"))) (mr:(PySem.W.clsIn K C).map (·.mro) = some (.ref C :: .ref B :: bmVE)):ExcC K B C:=⟨ow,ga,gt,ca,mr⟩
end L2
namespace Sen
open PySem L2 Bdd
theorem eq_flatsB {K:PySem.W.Frag} {α:Type} [DecidableEq α] (f:α→V) (hf:∀ x,flatV (f x) = true) (he:∀ x y,eqV (f x) (f y) = decide (x = y)) {H:Hp} {n:Nat} {p q:Addr} {xs ys:List α} (hp:SqL K H p (xs.map f)) (hq:SqL K H q (ys.map f)):EqD K H (n + 1) (.ref p) (.ref q) (decide (xs = ys)):=by
  by_cases hl:xs.length = ys.length
  · have z:EqD K H (n + 1) (.ref p) (.ref q) ((List.range (xs.map f).length).all fun j=>decide (xs[j]? = ys[j]?)):=.ll hp hq (by rw [List.length_map,List.length_map,hl]) fun j x y h1 h2=>by
      rw [List.getElem?_map] at h1 h2
      cases e1:xs[j]? with
      | none=>rw [e1] at h1; cases h1
      | some x' =>
        cases e2:ys[j]? with
        | none=>rw [e2] at h2; cases h2
        | some y' =>
          rw [e1] at h1; rw [e2] at h2
          cases h1; cases h2
          have e:decide (some x' = some y') = eqV (f x') (f y'):=by
            rw [he,Bool.eq_iff_iff]
            simp
          rw [e]
          exact .flat (hf _) (hf _)
    have e:((List.range (xs.map f).length).all fun j=>decide (xs[j]? = ys[j]?)) = decide (xs = ys):=by
      rw [Bool.eq_iff_iff,List.all_eq_true,decide_eq_true_iff]
      constructor
      · intro h
        refine List.ext_getElem? fun j=>?_
        by_cases hj:j < xs.length
        · exact of_decide_eq_true (h j (by rw [List.mem_range,List.length_map]; exact hj))
        · rw [List.getElem?_eq_none (by omega),List.getElem?_eq_none (by omega)]
      · rintro rfl j _
        simp
    rw [e] at z
    exact z
  · have e:decide (xs = ys) = false:=by
      rw [decide_eq_false_iff_not]
      rintro rfl
      exact hl rfl
    rw [e]
    exact .ln hp hq (by rw [List.length_map,List.length_map]; exact hl)
theorem eq_blsB {K:PySem.W.Frag} {H:Hp} {n:Nat} {p q:Addr} {xs ys:List Bool} (hp:SqL K H p (xs.map V.bl)) (hq:SqL K H q (ys.map V.bl)):EqD K H (n + 1) (.ref p) (.ref q) (decide (xs = ys)) :=
  eq_flatsB V.bl (fun _=>rfl) (fun x y=>by cases x <;> cases y <;> rfl) hp hq
def excL (cs:List Addr) (D:Addr):List Bool:=cs.map (fun C=>decide (D = C)) ++ [true]
def isL (due:Int):List Bool:=(List.range 9).map fun (k:Nat)=>decide ((k:Int) = due) || decide ((k:Int) = 8)
inductive spWhichA (K:PySem.W.Frag) (B:Addr) (cs:List Addr) (e:Addr) (vs:List V) (H:Hp) (Q:VK) (E9:XK):Prop
  | mk (D:Addr) (_:vs = [.ref e]) (_:H e = some (excO e D)) (_:ExcC K B D) (_:∀ (l:Addr) (H':Hp),Same H H'→H l = none→H' l = some (.lst ((excL cs D).map V.bl))→Q (.ref l) H'):spWhichA K B cs e vs H Q E9
inductive spIsA (K:PySem.W.Frag) (vs:List V) (H:Hp) (Q:VK) (E9:XK):Prop
  | mk (l:Addr) (bs:List Bool) (due:Int) (_:vs = [.ref l,.int due]) (_:SqL K H l (bs.map V.bl)) (_:∀ H',Same H H'→Q (.bl (decide (bs = isL due))) H'):spIsA K vs H Q E9
theorem made_same {H0 H':Hp} {bk dx:Addr} {o1 o2:HO} (hbk:H0 bk = none) (hdx:H0 dx = none) (keep:∀ x o,upd (upd H0 dx o1) bk o2 x = some o→x≠bk→H' x = some o):Same H0 H' :=
  fun x o e=>keep x o (by rw [upd_ne (ne_of_none e hbk),upd_ne (ne_of_none e hdx)]; exact e) (ne_of_none e hbk)
theorem made_foot {H0:Hp} {bk dx:Addr} {o1 o2:HO} {F:Foot} (hbk:H0 bk = none) (hdx:H0 dx = none) (hne:dx≠bk) (hF:∀ x,F x→x = bk∨x = dx∨upd (upd H0 dx o1) bk o2 x = none):∀ x,F x→H0 x = none:=fun x hx=>by
  rcases hF x hx with z | z | z
  · rw [z]; exact hbk
  · rw [z]; exact hdx
  · by_cases e1:x = bk
    · rw [e1] at z; rw [upd_same] at z; cases z
    · by_cases e2:x = dx
      · rw [e2,upd_ne hne,upd_same] at z; cases z
      · rw [upd_ne e1,upd_ne e2] at z; exact z
end Sen
namespace L2
open PySem PySem.Spec PyProof.Rows
section
variable {X:Cx} {e:Expr} {te:TE} {pos:Pos}
def fRep (te:TE):TF:=fun σ H Q=>te σ H fun v H1=>∃ x:Str,v = .str x∧(reprText x).length≤3000∧Q H1
theorem pf_repr (he:PE X e te):PF X (.FormattedValue e 114 none pos) (fRep te):=by
  intro pins s σ H Q I h
  refine wpAny_FormattedValue_repr (thn (he pins s σ H _ I h) fun v s1 ⟨x,H1,I1,r,y,ex,hy,q⟩=>?_)
  subst ex
  obtain ⟨tk,rfl⟩:=(show ∃ t,v = Value.str y t from r)
  refine wpAny_pyReprObj_str ?_ (by rw [sizeLine_eq]; omega)
  exact wpAny_formatField_str ⟨_,_,H1,rfl,hy,I1.tok _,q⟩ ⟨_,_,H1,rfl,hy,I1.tok _,q⟩ (by rw [sizeLine_eq]; omega)
end
end L2
namespace Sen
open PySem L2 Bdd
abbrev Rep (x:Str):Prop:=(reprText x).length≤3000
inductive spMarkR (D:Addr) (K:PySem.W.Frag) (vs:List V) (H:Hp) (Q9:VK) (E:XK):Prop
  | mk (l:Addr) (x:Str) (os:List Str) (_:vs = [.ref l,.str x]) (_:SqL K H l (os.map V.str)) (_:x ∉ os) (_:Rep x) (_:E (.ref D) none H):spMarkR D K vs H Q9 E
def spMarkE (D:Addr) (K:PySem.W.Frag):Sp:=fun vs H Q E=>spMustMark K vs H Q E∨spMarkR D K vs H Q E
inductive spRowR (D:Addr) (K:PySem.W.Frag) (vs:List V) (H:Hp) (Q9:VK) (E:XK):Prop
  | mk (l r:Addr) (xs:List V) (ns:List Int) (_:vs = [.ref l,.ref r]) (_:SqL K H l xs) (_:SqL K H r (ns.map V.int)) (_:ns.length≤1000) (_:rowB xs.length ns = false) (_:∀ H',Same H H'→E (.ref D) none H'):spRowR D K vs H Q9 E
end Sen
namespace L2
open PySem PySem.Spec PyProof.Rows PySem.Builtin PySem.Builtin.Str
section
variable {X:Cx}
theorem strs_of:∀ {xs:List Str} {l:List Value},Vals (xs.map V.str) l→∃ ps:List (Str × Tok),l = strValues ps∧ps.map (·.1) = xs
  | [],_,.nil=>⟨[],rfl,rfl⟩
  | x :: xs,_,.cons r rs=>by
    obtain ⟨ps,e,e2⟩:=strs_of rs
    obtain ⟨t,rfl⟩:=r
    exact ⟨(x,t) :: ps,by rw [e]; rfl,by rw [List.map_cons,e2]⟩
end
end L2
namespace Sen
open PySem L2 Bdd
def bitsI (ns:List Int):List Bool:=ns.map fun x=>decide (x = 1)
theorem rowV_bits {n:Nat} {ns:List Int} (h:rowB n ns = true):ns.map V.int = rowV (bitsI ns)∧(bitsI ns).length = n:=by
  unfold rowB at h
  rw [Bool.and_eq_true,List.all_eq_true] at h
  obtain ⟨h1,h2⟩:=h
  refine ⟨?_,by unfold bitsI; rw [List.length_map]; exact of_decide_eq_true h1⟩
  unfold rowV bitsI
  rw [List.map_map]
  refine List.map_congr_left fun x hx=>?_
  have y:=h2 x hx
  have y:x = 0∨x = 1:=by simpa using y
  rcases y with rfl | rfl <;> rfl
end Sen
namespace L2
open PySem PySem.Spec PyProof.Rows
def byT (w:World):Bool:=w.params.followText "set-order"
theorem layNew_led (t:SetTable) (es:Array (Int × Value)) (h:Int) (x:Value):(layNew t es h x).2.1.led = t.led∧(t.plain = false→(layNew t es h x).2.1.plain = false):=by
  unfold layNew
  split
  · dsimp only
    unfold SetTable.orStandIn
    split
    · exact ⟨rfl,fun e=>e⟩
    · exact ⟨rfl,fun _=>rfl⟩
  · exact ⟨rfl,fun _=>rfl⟩
theorem relayAll_led (t:SetTable) (es:Array (Int × Value)) (n:Nat):(relayAll t es n).2.1.led = t.led∧(t.plain = false→(relayAll t es n).2.1.plain = false):=by
  unfold relayAll
  split
  · rename_i t' order e
    have k:t'.led = t.led∧t'.plain = t.plain:=by
      unfold SetTable.relaid SetTable.laid at e
      cases ho:SetTable.layClean (SetTable.sizeAbove n - 1) (es.map (·.1)) with
      | none=>rw [ho] at e; cases e
      | some ow=>rw [ho] at e; cases e; exact ⟨rfl,rfl⟩
    dsimp only
    split
    · exact ⟨k.1,fun e=>k.2.trans e⟩
    · exact ⟨rfl,fun _=>rfl⟩
  · exact ⟨rfl,fun _=>rfl⟩
section
variable {P:Program} {w:World} {A:Around} {R:Result→Shared→Prop} {E:Value→Shared→Prop} {s:Shared}
structure SetT (P:Program) (w:World) (h:Heap) (a:Addr) (S:Str→Bool) (n:Nat) (es:Array (Int × Value)) (ep:Nat) (t:SetTable):Prop where
  at_:∃ o,h.get? a = some o∧o.ExactSet∧o.data = .set es ep t
  el:ElemsOf (strKind P w) es.toList
  mem:∀ k,S k = true↔∃ e∈es.toList,(strKind P w).is k e.2 = true
  bd:es.size < scanBound
  fit:t.fits es.size = true
  size:es.size = n
  led:t.led = (!byT w)
  plain:0 < n→t.plain = false
def SetTx (P:Program) (w:World) (h:Heap) (a:Addr) (S:Str→Bool) (n:Nat):Prop:=∃ es ep t,SetT P w h a S n es ep t
theorem SetT.keep {h h':Heap} {a:Addr} {S:Str→Bool} {n:Nat} {es:Array (Int × Value)} {ep:Nat} {t:SetTable} (H:SetT P w h a S n es ep t) (k:∀ o,h.get? a = some o→h'.get? a = some o):SetT P w h' a S n es ep t :=
  let ⟨o,h1,h2⟩:=H.at_
  { H with at_:=⟨o,k o h1,h2⟩ }
theorem SetTx.congr {h:Heap} {a:Addr} {S S':Str→Bool} {n n':Nat} (H:SetTx P w h a S n) (e:∀ k,S k = S' k) (en:n = n'):SetTx P w h a S' n':=by
  subst en
  rw [← funext e]
  exact H
theorem set_put {h:Heap} {a:Addr} {o:Obj} {es es':Array (Int × Value)} {ep:Nat} {t t':SetTable} {S':Str→Bool} (ho:h.get? a = some o) (hx:o.ExactSet) (hd:o.data = .set es ep t) (hel:ElemsOf (strKind P w) es'.toList) (hm:∀ k,S' k = true↔∃ e∈es'.toList,(strKind P w).is k e.2 = true)
    (hb:es'.size < scanBound) (hf:t'.fits es'.size = true) (hl:t'.led = (!byT w)) (hp:t'.plain = false):SetT P w (h.update a (Obj.putSet es' t')) a S' es'.size es' (ep + 1) t':=by
  obtain ⟨g,_⟩:=SetOf_store (knd:=strKind P w) (S':=S') ho hx hd hel hm hb hf
  exact ⟨⟨_,g,hx,rfl⟩,hel,hm,hb,hf,rfl,hl,fun _=>hp⟩
theorem set_add {a:Addr} {S:Str→Bool} {n:Nat} {k:Str} {tk:Tok} {Q:Bool→Shared→Prop} (hS:SetTx P w s.heap a S n) (hroom:n + 1 < scanBound)
    (q:∀ h',Heap.SameBut a s.heap h'→SetTx P w h' a (fun k'=>S k' || decide (k' = k)) (if S k then n else n + 1)→∀ b,Q b { s with heap:=h' }) :
    wpAny (model P w) A (setAddHashed a (.str k tk) ((strKind P w).hash k)) Q E s:=by
  obtain ⟨es,ep,t,H⟩:=hS
  obtain ⟨o,ho,hx,hd⟩:=H.at_
  have key:(strKind P w).is k (.str k tk) = true:=strKind_is _ _ _ _
  unfold setAddHashed setAddHashedIn
  refine wpAny_holding (wpAny_bind (wpAny_setState_of ho hd H.fit ?_))
  dsimp only
  rw [byScan_of (knd:=strKind P w) (x:=.str k tk) rfl H.bd H.el,if_pos rfl]
  unfold setAddByScan
  refine wpAny_bind (wpAny_bind (wpAny_rule (wpAny_bind (wpAny_setScan_of key ho hd H.fit H.el ?_))))
  cases hr:List.findIdx? (fun e=>(strKind P w).is k e.2) es.toList with
  | some j =>
    dsimp only
    obtain ⟨hj,hpj,_⟩:=List.findIdx?_eq_some_iff_getElem.mp hr
    have hk:S k = true:=(H.mem k).mpr ⟨es.toList[j],List.getElem_mem hj,hpj⟩
    refine wpAny_pure (wpAny_pure ?_)
    have y:=q s.heap (Heap.SameBut.refl a s.heap) (SetTx.congr ⟨es,ep,t,H⟩ (fun k'=>by
      by_cases e:k' = k
      · rw [e,hk]; rfl
      · rw [decide_eq_false e,Bool.or_false]) (by rw [if_pos hk])) false
    cases s
    exact y
  | none =>
    dsimp only
    have hk:S k = false:=by
      cases hk:S k with
      | false=>rfl
      | true =>
        obtain ⟨e,he,hp⟩:=(H.mem k).mp hk
        have:=List.findIdx?_eq_none_iff.mp hr e he
        rw [hp] at this
        cases this
    have pm:=layNew_perm t es ((strKind P w).hash k) (.str k tk)
    have ft:=layNew_fits t es ((strKind P w).hash k) (.str k tk)
    have ld:=layNew_led t es ((strKind P w).hash k) (.str k tk)
    generalize layNew t es ((strKind P w).hash k) (.str k tk) = L at pm ft ld ⊢
    obtain ⟨e1,t1,wd,gv⟩:=L
    dsimp only at pm ft ld ⊢
    rw [Array.toList_push] at pm
    have el1:ElemsOf (strKind P w) e1.toList:=(H.el.push key rfl).perm pm
    have mm1:=mem_push_iff (knd:=strKind P w) key H.mem pm
    have sz1:e1.size = n + 1:=by rw [← Array.length_toList,pm.length_eq,List.length_append,Array.length_toList,H.size]; rfl
    have bd1:e1.size < scanBound:=by omega
    have fin:∀ (t2:SetTable) {E':Value→Shared→Prop},t2.fits e1.size = true→t2.led = (!byT w)→t2.plain = false→wpAny (model P w) A (do
        storeSet a e1 t2
        if (!wd && t2.tooFull) = true then do
            (match (relayAll t2 e1 (SetTable.grown e1.size)).2.2 with | true=>rule "set.scan.the-table-gave-way" | false=>pure ())
            storeSet a (relayAll t2 e1 (SetTable.grown e1.size)).1 (relayAll t2 e1 (SetTable.grown e1.size)).2.1
            pure (some true)
          else pure (some true)) (fun b s'=>b = some true∧∃ h',s' = { s with heap:=h' }∧Heap.SameBut a s.heap h'∧SetTx P w h' a (fun k'=>S k' || decide (k' = k)) (n + 1)) E' s:=fun t2 E' f2 l2 p2=>by
      have T1:=set_put (S':=fun k'=>S k' || decide (k' = k)) ho hx hd el1 mm1 bd1 f2 l2 p2
      have b1:=Heap.SameBut.update s.heap a (Obj.putSet e1 t2)
      refine wpAny_bind (wpAny_storeSet_of ho hd ?_ (fits_of_scanBound bd1))
      split
      · have pr:=relayAll_perm t2 e1 (SetTable.grown e1.size)
        have fr:=relayAll_fits t2 e1 (SetTable.grown e1.size)
        have lr:=relayAll_led t2 e1 (SetTable.grown e1.size)
        generalize relayAll t2 e1 (SetTable.grown e1.size) = Z at pr fr lr ⊢
        obtain ⟨e3,t3,g3⟩:=Z
        dsimp only at pr fr lr ⊢
        have sz3:e3.size = e1.size:=by rw [← Array.length_toList,pr.length_eq,Array.length_toList]
        obtain ⟨o1,ho1,hx1,hd1⟩:=T1.at_
        have T3:=set_put (S':=fun k'=>S k' || decide (k' = k)) (es':=e3) (t':=t3) ho1 hx1 hd1 (el1.perm pr) (fun k'=>(mm1 k').trans ⟨fun ⟨e,he,z⟩=>⟨e,pr.mem_iff.mpr he,z⟩,fun ⟨e,he,z⟩=>⟨e,pr.mem_iff.mp he,z⟩⟩) (by omega) fr (lr.1.trans l2) (lr.2 p2)
        have gw:∀ {Q':Unit→Shared→Prop} {z:Shared},Q' () z→wpAny (model P w) A (match g3 with | true=>rule "set.scan.the-table-gave-way" | false=>pure ()) Q' E' z:=fun h=>by cases g3 <;> first | exact wpAny_pure h | exact wpAny_rule h
        refine wpAny_bind (gw ?_)
        refine wpAny_bind (wpAny_storeSet_of ho1 hd1 ?_ (fits_of_scanBound (by omega)))
        refine wpAny_pure ⟨rfl,_,rfl,b1.trans (Heap.SameBut.update _ a _),SetTx.congr ⟨_,_,_,T3⟩ (fun _=>rfl) (by omega)⟩
      · exact wpAny_pure ⟨rfl,_,rfl,b1,SetTx.congr ⟨_,_,_,T1⟩ (fun _=>rfl) sz1⟩
    have last:∀ {m:Sem (Option Bool)} {f:Option Bool→Sem Bool},(∀ E',wpAny (model P w) A m (fun b s'=>b = some true∧∃ h',s' = { s with heap:=h' }∧Heap.SameBut a s.heap h'∧SetTx P w h' a (fun k'=>S k' || decide (k' = k)) (n + 1)) E' s)→f (some true) = pure true→wpAny (model P w) A m (fun b s'=>wpAny (model P w) A (f b) Q E s') E s:=fun h e=>by
      refine wpAny_mono (h E) (fun b s' z=>?_) fun _ _ z=>z
      obtain ⟨rfl,h',rfl,sb,sx⟩:=z
      rw [e]
      exact wpAny_pure (q h' sb (SetTx.congr sx (fun _=>rfl) (by rw [hk]; rfl)) true)
    have g0:∀ {Q':Unit→Shared→Prop} {E':Value→Shared→Prop} {z:Shared},Q' () z→wpAny (model P w) A (match gv with | true=>rule "set.scan.the-table-gave-way" | false=>pure ()) Q' E' z:=fun h=>by cases gv <;> first | exact wpAny_pure h | exact wpAny_rule h
    refine wpAny_bind (g0 ?_)
    by_cases pl:t1.plain = true
    · rw [if_pos pl]
      refine wpAny_bind (wpAny_of_eq (show hashByValue 8 (.str k tk) = pure false from rfl) ?_)
      simp only [Bool.false_eq_true,if_false]
      exact last (fun E'=>fin _ (SetTable.fits_plain_off ft) (ld.1.trans H.led) rfl) rfl
    · rw [if_neg pl]
      refine wpAny_bind (wpAny_pure ?_)
      have p1:t1.plain = false:=by cases h:t1.plain with | true=>exact absurd h pl | false=>rfl
      exact last (fun E'=>fin _ ft (ld.1.trans H.led) p1) rfl
theorem SetTx.keep {h h':Heap} {a:Addr} {S:Str→Bool} {n:Nat} (H:SetTx P w h a S n) (k:∀ o,h.get? a = some o→h'.get? a = some o):SetTx P w h' a S n :=
  let ⟨es,ep,t,H⟩:=H
  ⟨es,ep,t,H.keep k⟩
theorem lay_strsT {I:Addr} {fp wr:List Addr} {G:Array GenState→Array GenState→Prop} {n:Nat} {Pv:Nat→Value→Prop} {St:Nat→Shared→Prop} (W:WalksS P w A.in1 I fp wr G n Pv St) (S:Addr) (hS:S ∉ fp) (xs:List Str) (hn:xs.length = n)
    (hv:∀ i v,Pv i v→∃ t,v = .str (xs.getD i "") t) (hb:n + 1 < scanBound) :
    ∀ (k i:Nat) (z:Shared),n - i = k→i≤n→St i z→SetTx P w z.heap S (fun q=>(dd (xs.take i)).any (· == q)) (dd (xs.take i)).length →
      (∀ z',Moved (S :: wr) G z z'→SetTx P w z'.heap S (fun q=>(dd xs).any (· == q)) (dd xs).length→R (.ok (.ret .none)) z') →
      codeAny (model P w) A (.builtin "set.update.loop" ⟨[.ref S,.ref I],[]⟩) R z:=by
  have notw:S ∉ wr:=fun h=>hS (W.sub _ h)
  have more:∀ b∈wr,b∈S :: wr:=fun b h=>List.mem_cons_of_mem _ h
  intro k
  induction k with
  | zero =>
    intro i z hk hi st hset fin
    have ei:i = n:=by omega
    subst ei
    refine codeAny_builtin PyProof.Rows.F.entry_set_update_loop ?_
    rw [Around.under_plainId PyProof.Rows.F.plain_set_update_loop _]
    show wpAny _ A.in1 (pyNext (.ref I) >>= _) _ _ z
    refine wpAny_bind (W.done z _ _ st fun z' mv=>?_)
    show wpAny _ A.in1 (ret Value.none) _ _ z'
    refine wpAny_pure (fin z' (mv.mono more) ?_)
    rw [← hn,List.take_length] at hset
    exact hset.keep fun o e=>mv.heap S o notw e
  | succ k ih =>
    intro i z hk hi st hset fin
    have il:i < n:=by omega
    refine codeAny_builtin PyProof.Rows.F.entry_set_update_loop ?_
    rw [Around.under_plainId PyProof.Rows.F.plain_set_update_loop _]
    show wpAny _ A.in1 (pyNext (.ref I) >>= _) _ _ z
    refine wpAny_bind (W.item i z _ _ il st fun v z' pv st' mv=>?_)
    obtain ⟨t,rfl⟩:=hv i v pv
    have hset':SetTx P w z'.heap S (fun q=>(dd (xs.take i)).any (· == q)) (dd (xs.take i)).length:=hset.keep fun o e=>mv.heap S o notw e
    show wpAny _ A.in1 (holding [Value.str (xs.getD i "") t] (setAdd S (.str (xs.getD i "") t)) >>= _) _ _ z'
    refine wpAny_bind (wpAny_holding ?_)
    unfold setAdd
    refine wpAny_holding ?_
    refine wpAny_bind ((strKind P w).pyHash (k:=xs.getD i "") (strKind_is _ _ _ _) ?_)
    have hroom:(dd (xs.take i)).length + 1 < scanBound:=by
      have:=dd_le (xs.take i)
      rw [List.length_take] at this
      omega
    have et:xs.take (i + 1) = xs.take i ++ [xs.getD i ""]:=by
      rw [List.take_succ,List.getD_eq_getElem?_getD,List.getElem?_eq_getElem (by omega)]
      rfl
    refine set_add (s:={ z' with toks:=z'.toks + 1 }) hset' hroom fun h' sb s2 b'=>?_
    have hset2:SetTx P w h' S (fun q=>(dd (xs.take (i + 1))).any (· == q)) (dd (xs.take (i + 1))).length :=
      s2.congr (fun q=>by rw [et,dd_snoc,met_any]) (by rw [et,dd_snoc,met_len])
    refine wpAny_pure ⟨plainId_quiet PyProof.Rows.F.plain_set_update_loop _,ih (i + 1) _ (by omega) il (W.frame _ z' _ _ st' (Nat.le_succ _) fun b hb' o e=>?_) hset2 fun z'' mv2 s3=>?_⟩
    · rw [sb.2 b (fun h:b = S=>hS (by rw [← h]; exact hb'))]; exact e
    · refine fin z'' (Moved.trans W.gtrans ((mv.mono more).then_heap (Nat.le_succ _) fun b o hb' e=>?_) mv2) s3
      rw [sb.2 b (fun h:b = S=>hb' (by rw [h]; exact List.mem_cons_self))]; exact e
theorem new_setT (a:Value) {Q₁:Value→Shared→Prop} (h:Q₁ (.ref s.heap.objs.size) { s with heap:=s.heap.push (setO (!byT w)) }):codeAny (model P w) A (.call (.builtin "set.__new__") ⟨[.type "set", a],[]⟩) (wants Q₁ E) s:=by
  refine codeAny_of_tree ?_
  show wpAny _ A.in1 (checkBuiltinCall "set.__new__" ⟨[.type "set", a],[]⟩ >>= fun _=>again (.builtin "set.__new__" ⟨[.type "set", a],[]⟩)) _ _ s
  refine wpAny_bind (wpAny_of_eq (F.newCall_set_1 a) (wpAny_pure ⟨plainId_quiet F.plain_set_new _,codeAny_builtin F.entry_set_new ?_⟩))
  rw [Around.under_plainId F.plain_set_new _]
  unfold Builtin.«set.__new__» Builtin.Frozenset.newClass
  have hs:=sub_set_self
  obtain ⟨hp,g,d,tk,os⟩:=s
  dsimp only at h ⊢
  wp_walk
  refine wpAny_askSetting (wpAny_pure ?_)
  dsimp only
  simp only [newObj]
  refine wpAny_bind (wpAny_alloc (wpAny_pure ?_))
  exact wpAny_pure h
set_option maxHeartbeats 8000000 in
theorem set_strsT {l:Addr} {us:List Value} {xs:List Str} {Q:Value→Shared→Prop} (hh:A.handled = none) (hl:s.heap.IsList l us.toArray) (r:Vals (xs.map V.str) us) (hb:xs.length + 1 < scanBound)
    (h:∀ (h':Heap) (tk:Nat),SetTx P w h' s.heap.objs.size (fun q=>(dd xs).any (· == q)) (dd xs).length→(∀ b o,s.heap.get? b = some o→h'.get? b = some o)→Q (.ref s.heap.objs.size) { s with heap:=h',toks:=tk }) :
    wpAny (model P w) A (call (.type "set") [.ref l]) Q E s:=by
  have hlen:xs.length = us.toArray.size:=by have:=r.length; rw [List.length_map] at this; simpa using this
  obtain ⟨cc,tl,hmro⟩:=F.called_set.mro
  have made:=F.called_set.made
  have sub:=F.called_set.sub
  refine wpAny_call (codeAny_of_tree ?_)
  show wpAny _ _ (callAny (.type "set") _) _ _ _
  refine wpAny_pure ⟨Code.quiet_builtin _ (by decide +kernel),codeAny_builtin F.entry_type_call ?_⟩
  rw [Around.under_plain (weight_type_call_type "set" [.ref l] []) rfl]
  have a1:=F.called_set.notType
  have a2:=F.called_set.canCreate
  have a3:=F.typeCall_set_1 (.ref l)
  repeat (any_goals (first | assumption | wp_step))
  refine codeAny_mono (new_setT (.ref l) (E:=E) (Q₁:=fun ob z=>∃ led:Bool,led = (!byT w)∧ob = .ref s.heap.objs.size∧z = { s with heap:=s.heap.push { cls:=.type "set", dict:=none,data:=.set #[] 0 (.fresh 0 0 led) } }) ⟨_,rfl,rfl,rfl⟩) fun res z hres=>?_
  cases res with
  | error e=>exact hres
  | ok fl =>
    cases fl with
    | ret ob =>
      obtain ⟨led,el,rfl,rfl⟩:=hres
      have gS:(s.heap.push (setO led)).get? s.heap.objs.size = some (setO led):=Heap.get?_push_size _ rfl
      have tS:Shared.TypeIs { s with heap:=s.heap.push (setO led) } (.ref s.heap.objs.size) "set" := ⟨_,gS,rfl⟩
      have b1:=F.called_set.init.lookup
      have b2:=F.called_set.init.bind (.ref s.heap.objs.size)
      repeat (any_goals (first | assumption | wp_step))
      refine codeAny_mono (codeAny_call_builtin (R:=wants (fun v z=>v = .none∧∃ h' tk,z = { s with heap:=h',toks:=tk }∧SetTx P w h' s.heap.objs.size (fun q=>(dd xs).any (· == q)) (dd xs).length∧(∀ b o,s.heap.get? b = some o→h'.get? b = some o)) E)
        F.called_set.init.plain F.entry_set_init (check_set_init_1 tS ?_)) fun res2 z2 hres2=>?_
      · obtain ⟨ol,gl,cl,nl,dl⟩:=hl
        obtain ⟨ocls,odict,odata,oslots⟩:=ol
        have cl':ocls = .type "list" := cl
        have dl':odata = .seq us.toArray nl:=dl
        subst cl' dl'
        have gl':(s.heap.push (setO led)).get? l = some { cls:=.type "list", dict:=odict,data:=.seq us.toArray nl,slots:=oslots }:=Heap.get?_push_of_some _ gl
        have c1:=F.sub_list_set
        have c2:=F.sub_list_frozenset
        have c3:(Value.type "list" == Value.type "dict") = false:=by decide
        have isl:(s.heap.push (setO led)).IsList l us.toArray:=⟨_,gl',rfl,nl,rfl⟩
        unfold Builtin.«set.__init__» noKeywords Builtin.Frozenset.updateFrom
        generalize hit:pyIter = itf
        wp_walk
        subst hit
        refine wpAny_pyIter_list isl ?_
        refine wpAny_bind (wpAny_runValue ?_)
        have ltl:l < s.heap.objs.size:=Heap.lt_size gl
        have hd3:A.in1.in1.in1.handled = none:=by simp [hh]
        have sz1:(s.heap.push (setO led)).objs.size = s.heap.objs.size + 1:=Heap.size_push ..
        have nel:l≠(s.heap.push (setO led)).objs.size:=by rw [sz1]; exact Nat.ne_of_lt (Nat.lt_succ_of_lt ltl)
        have nin:s.heap.objs.size ∉ [(s.heap.push (setO led)).objs.size,l]:=by
          rw [sz1]
          simp only [List.mem_cons,List.not_mem_nil,or_false,not_or]
          exact ⟨Nat.ne_of_lt (Nat.lt_succ_self _),Nat.ne_of_gt ltl⟩
        refine lay_strsT ((Walks.list hd3 _ l nel us.toArray).toS) s.heap.objs.size nin xs hlen (fun i v hv=>strs_at r i v (by simpa using hv)) (by rw [← hlen]; exact hb) (us.toArray.size - 0) 0 _ (by omega) (Nat.zero_le _)
          ⟨⟨_,Heap.get?_push_size _ rfl,rfl,rfl⟩,isl.push _⟩ ?s0 ?fin
        case s0 =>
          have gg:((s.heap.push (setO led)).push { cls:=.type "list_iterator", data:=.fields #[.ref l,.int 0 0] }).get? s.heap.objs.size = some (setO led):=Heap.get?_push_of_some _ gS
          exact ⟨#[],0,_,⟨_,gg,⟨rfl,rfl,rfl⟩,rfl⟩,(fun e he=>by simp at he),(fun k=>by simp [dd]),by decide,by rfl,rfl,el,fun h=>absurd h (Nat.lt_irrefl _)⟩
        case fin =>
          intro z mv sz
          obtain ⟨h',g',d',tk',os'⟩:=z
          have e1:g' = s.gens:=mv.gens
          have e2:d' = s.drawn:=mv.drawn
          have e3:os' = s.os:=mv.os
          subst e1 e2 e3
          show wpAny _ _ _ _ _ _
          refine wpAny_pure ?_
          show wpAny _ _ (ret Value.none) _ _ _
          refine wpAny_pure ⟨rfl,h',tk',rfl,sz,fun b o e=>?_⟩
          have lb:=Heap.lt_size e
          have n1:b≠s.heap.objs.size:=Nat.ne_of_lt lb
          have n2:b≠(s.heap.push (setO led)).objs.size:=by rw [sz1]; exact Nat.ne_of_lt (Nat.lt_succ_of_lt lb)
          exact mv.heap b o (by simp only [List.mem_cons,List.not_mem_nil,or_false,not_or]; exact ⟨n1,n2⟩) (Heap.get?_push_of_some _ (Heap.get?_push_of_some _ e))
      · cases res2 with
        | error e=>exact hres2
        | ok fl2 =>
          cases fl2 with
          | ret v =>
            obtain ⟨rfl,h',tk,rfl,sS,kk⟩:=hres2
            repeat (any_goals (first | assumption | wp_step))
            exact h _ _ sS kk
          | _=>exact hres2.elim
    | _=>exact hres.elim
end
end L2
namespace L2
open PySem PySem.Spec PyProof.Rows
theorem slot_set_iter:Slot "set" "__iter__" "set.__iter__" :=
  .of (owner := "set") (n := "__iter__") (by rw [typeLookup_type,builtinLookup_eq_fast]; kernel_rfl) (by decide +kernel) (by decide +kernel) (by decide +kernel)
    (by first | exact .inl (by decide +kernel) | exact .inr (by decide +kernel)) (by rw [isSubtype_type]; kernel_rfl)
theorem slot_setiter_next:Slot "set_iterator" "__next__" "set_iterator.__next__" :=
  .of (owner := "set_iterator") (n := "__next__") (by rw [typeLookup_type,builtinLookup_eq_fast]; kernel_rfl) (by decide +kernel) (by decide +kernel) (by decide +kernel)
    (by first | exact .inl (by decide +kernel) | exact .inr (by decide +kernel)) (by rw [isSubtype_type]; kernel_rfl)
theorem entry_set_iter:entryFor table "set.__iter__" = some Builtin.«frozenset.__iter__» :=
  entryFor_alias (id' := "frozenset.__iter__") (by kernel_rfl) rfl (by decide +kernel) (by kernel_rfl)
theorem entry_setiter_next:entryFor table "set_iterator.__next__" = some Builtin.«set_iterator.__next__»:=entryFor_of_fast (by kernel_rfl)
theorem args_set_iter (a:Value):argsOk "set.__iter__" ⟨[a],[]⟩:=by unfold argsOk; kernel_rfl
theorem args_setiter_next (a:Value):argsOk "set_iterator.__next__" ⟨[a],[]⟩:=by unfold argsOk; kernel_rfl
theorem slot_setiter_iter:Slot "set_iterator" "__iter__" "set_iterator.__iter__" :=
  .of (owner := "set_iterator") (n := "__iter__") (by rw [typeLookup_type,builtinLookup_eq_fast]; kernel_rfl) (by decide +kernel) (by decide +kernel) (by decide +kernel)
    (by first | exact .inl (by decide +kernel) | exact .inr (by decide +kernel)) (by rw [isSubtype_type]; kernel_rfl)
theorem entry_setiter_iter:entryFor table "set_iterator.__iter__" = some Builtin.«dict_keyiterator.__iter__» :=
  entryFor_alias (id' := "dict_keyiterator.__iter__") (by kernel_rfl) rfl (by decide +kernel) (by kernel_rfl)
theorem args_setiter_iter (a:Value):argsOk "set_iterator.__iter__" ⟨[a],[]⟩:=by unfold argsOk; kernel_rfl
end L2
namespace L2
open PySem PySem.Spec PyProof.Rows
theorem ers_perm {α:Type}:∀ {l:List α} {i:Nat} (h:i < l.length),(l[i] :: l.eraseIdx i).Perm l
  | x :: l,0,_=>.refl _
  | x :: l,i + 1,h=>(List.Perm.swap x _ _).trans ((ers_perm (by simpa using h)).cons x)
theorem pick_go {α:Type} (next:Nat→Nat):∀ (fuel k:Nat) (left:List α) (out:Array α),left.length = fuel→(pickOrder.go next fuel k left out).toList.Perm (out.toList ++ left)
  | 0,k,left,out,h=>by
    have:left = []:=List.eq_nil_of_length_eq_zero h
    subst this
    unfold pickOrder.go
    rw [List.append_nil]
  | fuel + 1,k,left,out,h=>by
    have lt:next k % left.length < left.length:=Nat.mod_lt _ (by omega)
    unfold pickOrder.go
    rw [List.getElem?_eq_getElem lt]
    dsimp only
    refine (pick_go next fuel (k + 1) _ _ (by rw [List.length_eraseIdx_of_lt lt]; omega)).trans ?_
    rw [Array.toList_push,List.append_assoc]
    exact (List.Perm.refl _).append (ers_perm lt)
theorem pick_perm {α:Type} (next:Nat→Nat) (xs:Array α):(pickOrder next xs).toList.Perm xs.toList:=pick_go next _ 0 _ _ (by simp)
section
variable {P:Program} {w:World} {A:Around} {E:Value→Shared→Prop} {s:Shared}
theorem any_choose {src:Source} {n:Nat} {Q:Nat→Shared→Prop} (hn:0 < n) (h:∀ i d,i < n→Q i { s with drawn:=d }):wpAny (model P w) A (choose src n) Q E s:=fun Γ p _=>⟨by omega,h _ _ (Nat.mod_lt _ hn)⟩
theorem draw_perm {α:Type}:∀ (n:Nat) (xs:List α) {s:Shared} {Q:List α→Shared→Prop},xs.length = n→(∀ ys d,ys.Perm xs→Q ys { s with drawn:=d })→wpAny (model P w) A (drawOrder n xs) Q E s
  | 0,xs,s,Q,h,q=>by
    have:xs = []:=List.eq_nil_of_length_eq_zero h
    subst this
    unfold drawOrder
    exact wpAny_pure (q [] s.drawn (.refl _))
  | n + 1,[],s,Q,h,q=>by cases h
  | n + 1,x :: xs,s,Q,h,q=>by
    unfold drawOrder
    refine wpAny_bind (any_choose (by simp) fun i d lt=>?_)
    rw [List.getElem?_eq_getElem lt]
    dsimp only
    refine wpAny_bind (draw_perm n ((x :: xs).eraseIdx i) (by rw [List.length_eraseIdx_of_lt lt]; omega) fun ys d' pm=>?_)
    exact wpAny_pure (q _ d' ((pm.cons _).trans (ers_perm lt)))
abbrev sIt (first:Value) (i:Nat) (a:Addr) (n ep:Nat):Obj:={ cls:=.type "set_iterator", data:=.fields #[first,rawInt i,.ref a,rawInt n,rawInt ep] }
theorem next_set {it a:Addr} {S:Str→Bool} {n i ep f g:Nat} {es:Array (Int × Value)} {t:SetTable} {x:Value} {Q:Option Value→Shared→Prop} (T:SetT P w s.heap a S n es ep t) (hit:s.heap.get? it = some (sIt (rawInt f) i a n ep))
    (hn:∀ {A':Around} {E':Value→Shared→Prop} {Q':Option (Value × Nat)→Shared→Prop},Q' (some (x,g)) s→wpAny (model P w) A' (setNext a f i ep) Q' E' s)
    (hQ:∀ h',h'.get? it = some (sIt (rawInt g) (i + 1) a n ep)→Heap.SameBut it s.heap h'→Q (some x) { s with heap:=h' }):wpAny (model P w) A (pyNext (.ref it)) Q E s:=by
  have hT:s.TypeIs (.ref it) "set_iterator" := ⟨_,hit,rfl⟩
  obtain ⟨o,ho,hx,hd⟩:=T.at_
  unfold pyNext
  refine wpAny_bind (wpAny_attempt (wpAny_callSpecial?_slot (name:=Str.ofString "__next__") hT slot_setiter_next (wpAny_call_entry slot_setiter_next hT entry_setiter_next ?_ (args_setiter_next _))))
  show wpAny _ _ (fieldsOf (.ref it) >>= _) _ _ s
  refine wpAny_bind (wpAny_fieldsOf hit rfl ?_)
  show wpAny _ _ (setEntries a >>= _) _ _ s
  refine wpAny_bind (wpAny_setEntries_of ho hd T.fit ?_)
  rw [T.size]
  rw [if_neg (show ¬ (((n:Nat):Int) != ((n:Nat):Int)) = true by simp)]
  refine wpAny_bind (hn ?_)
  show wpAny _ _ (setField (.ref it) 0 (rawInt g) >>= _) _ _ s
  refine wpAny_bind (wpAny_setField hit rfl (by simp) ?_)
  have h1:(s.heap.update it (Obj.mapFields (·.setIfInBounds 0 (rawInt g)))).get? it = some (sIt (rawInt g) i a n ep):=by
    have:=Heap.get?_update_self (Obj.mapFields (·.setIfInBounds 0 (rawInt g))) hit rfl
    exact this
  show wpAny _ _ (setField (.ref it) 1 (rawInt ((i:Int) + 1)) >>= _) _ _ _
  refine wpAny_bind (wpAny_setField h1 rfl (by simp) (wpAny_pure ⟨x,rfl,wpAny_pure (hQ _ ?_ ((Heap.SameBut.update ..).trans (Heap.SameBut.update ..)))⟩))
  exact Heap.get?_update_self (Obj.mapFields (·.setIfInBounds 1 (rawInt ((i:Int) + 1)))) h1 rfl
theorem stop_any {it:Addr} {Q:Option Value→Shared→Prop} {h0:Heap} (hh:A.handled = none) (hQ:∀ h',Heap.ExtBut it h0 h'→Q none { s with heap:=h' }) (sb:Heap.ExtBut it h0 s.heap) :
    wpAny (model P w) A.in1 (newExc (.type "StopIteration") [] >>= fun e=>(raiseNew e:Sem PySem.Fin)) (fun fin s'=>∃ v,fin = .done (.ret v)∧wpAny (model P w) A (pure (some v)) Q E s') (fun e s'=>wpAny (model P w) A (isInstance e (.type "StopIteration") >>= fun b=>if b = true then pure none else throw e) Q E s') s:=by
  refine wpAny_bind ?_
  simp only [newExc,newTuple]
  refine wpAny_bind (wpAny_newObj_type ?_ (by size_fits))
  refine wpAny_bind (m:=firstArgMember _ _) (wpAny_of_eq (a:=Value.none) (by first | rfl | (simp only [firstArgMember]; rfl)) ?_)
  refine wpAny_newObj_type ?_ (by size_fits)
  simp only [raiseNew]
  refine wpAny_bind (wpAny_handled ?_)
  rw [show A.in1.handled = none from hh]
  refine wpAny_bind (wpAny_pure (wpAny_throw ?_))
  refine wpAny_bind (wpAny_isInstance (T := "StopIteration") (b:=true) ⟨_,Heap.get?_push_size _ rfl,rfl⟩ isSubtype_stop ?_)
  exact wpAny_pure (hQ _ ((sb.push _).push _))
theorem end_set {it a:Addr} {S:Str→Bool} {n i ep f:Nat} {es:Array (Int × Value)} {t:SetTable} {Q:Option Value→Shared→Prop} (hh:A.handled = none) (T:SetT P w s.heap a S n es ep t) (hit:s.heap.get? it = some (sIt (rawInt f) i a n ep))
    (hn:∀ {A':Around} {E':Value→Shared→Prop} {Q':Option (Value × Nat)→Shared→Prop},Q' none s→wpAny (model P w) A' (setNext a f i ep) Q' E' s)
    (hQ:∀ h',Heap.ExtBut it s.heap h'→Q none { s with heap:=h' }):wpAny (model P w) A (pyNext (.ref it)) Q E s:=by
  have hT:s.TypeIs (.ref it) "set_iterator" := ⟨_,hit,rfl⟩
  obtain ⟨o,ho,hx,hd⟩:=T.at_
  unfold pyNext
  refine wpAny_bind (wpAny_attempt (wpAny_callSpecial?_slot (name:=Str.ofString "__next__") hT slot_setiter_next (wpAny_call_entry slot_setiter_next hT entry_setiter_next ?_ (args_setiter_next _))))
  show wpAny _ _ (fieldsOf (.ref it) >>= _) _ _ s
  refine wpAny_bind (wpAny_fieldsOf hit rfl ?_)
  show wpAny _ _ (setEntries a >>= _) _ _ s
  refine wpAny_bind (wpAny_setEntries_of ho hd T.fit ?_)
  rw [T.size]
  rw [if_neg (show ¬ (((n:Nat):Int) != ((n:Nat):Int)) = true by simp)]
  refine wpAny_bind (hn ?_)
  show wpAny _ _ (setField (.ref it) 2 .none >>= _) _ _ s
  refine wpAny_bind (wpAny_setField hit rfl (by simp) ?_)
  exact stop_any (it:=it) (h0:=s.heap) hh hQ (Heap.SameBut.update ..).extBut
theorem next_drawn {it a tp:Addr} {S:Str→Bool} {n i ep j:Nat} {es:Array (Int × Value)} {t:SetTable} {pl:Array Value} {tn:Nat} {ot:Obj} {e:Int × Value} {Q:Option Value→Shared→Prop} (T:SetT P w s.heap a S n es ep t) (hit:s.heap.get? it = some (sIt (.ref tp) i a n ep)) (htp:s.heap.get? tp = some ot) (hot:ot.data = .seq pl tn)
    (hj:pl[i]? = some (rawInt j)) (he:es[j]? = some e)
    (hQ:∀ h',h'.get? it = some (sIt (.ref tp) (i + 1) a n ep)→Heap.SameBut it s.heap h'→Q (some e.2) { s with heap:=h' }):wpAny (model P w) A (pyNext (.ref it)) Q E s:=by
  have hT:s.TypeIs (.ref it) "set_iterator" := ⟨_,hit,rfl⟩
  obtain ⟨o,ho,hx,hd⟩:=T.at_
  unfold pyNext
  refine wpAny_bind (wpAny_attempt (wpAny_callSpecial?_slot (name:=Str.ofString "__next__") hT slot_setiter_next (wpAny_call_entry slot_setiter_next hT entry_setiter_next ?_ (args_setiter_next _))))
  show wpAny _ _ (fieldsOf (.ref it) >>= _) _ _ s
  refine wpAny_bind (wpAny_fieldsOf hit rfl ?_)
  show wpAny _ _ (setEntries a >>= _) _ _ s
  refine wpAny_bind (wpAny_setEntries_of ho hd T.fit ?_)
  rw [T.size]
  rw [if_neg (show ¬ (((n:Nat):Int) != ((n:Nat):Int)) = true by simp)]
  refine wpAny_bind (wpAny_seqItems htp hot ?_)
  dsimp only
  rw [Int.toNat_natCast,hj]
  show wpAny _ _ (setNextDrawn a (Int.toNat j) (Int.toNat ep) >>= _) _ _ s
  unfold setNextDrawn
  refine wpAny_bind (wpAny_bind (wpAny_setState_of ho hd T.fit ?_))
  dsimp only
  rw [Int.toNat_natCast,Int.toNat_natCast,if_neg (show ¬ (ep != ep) = true by simp),he]
  refine wpAny_pure ?_
  show wpAny _ _ (setField (.ref it) 1 (rawInt ((i:Int) + 1)) >>= _) _ _ _
  refine wpAny_bind (wpAny_setField hit rfl (by simp) (wpAny_pure ⟨e.2,rfl,wpAny_pure (hQ _ ?_ (Heap.SameBut.update ..))⟩))
  exact Heap.get?_update_self (Obj.mapFields (·.setIfInBounds 1 (rawInt ((i:Int) + 1)))) hit rfl
theorem end_drawn {it a tp:Addr} {S:Str→Bool} {n i ep:Nat} {es:Array (Int × Value)} {t:SetTable} {pl:Array Value} {tn:Nat} {ot:Obj} {Q:Option Value→Shared→Prop} (hh:A.handled = none) (T:SetT P w s.heap a S n es ep t) (hit:s.heap.get? it = some (sIt (.ref tp) i a n ep)) (htp:s.heap.get? tp = some ot) (hot:ot.data = .seq pl tn)
    (hj:pl[i]? = none)
    (hQ:∀ h',Heap.ExtBut it s.heap h'→Q none { s with heap:=h' }):wpAny (model P w) A (pyNext (.ref it)) Q E s:=by
  have hT:s.TypeIs (.ref it) "set_iterator" := ⟨_,hit,rfl⟩
  obtain ⟨o,ho,hx,hd⟩:=T.at_
  unfold pyNext
  refine wpAny_bind (wpAny_attempt (wpAny_callSpecial?_slot (name:=Str.ofString "__next__") hT slot_setiter_next (wpAny_call_entry slot_setiter_next hT entry_setiter_next ?_ (args_setiter_next _))))
  show wpAny _ _ (fieldsOf (.ref it) >>= _) _ _ s
  refine wpAny_bind (wpAny_fieldsOf hit rfl ?_)
  show wpAny _ _ (setEntries a >>= _) _ _ s
  refine wpAny_bind (wpAny_setEntries_of ho hd T.fit ?_)
  rw [T.size]
  rw [if_neg (show ¬ (((n:Nat):Int) != ((n:Nat):Int)) = true by simp)]
  refine wpAny_bind (wpAny_seqItems htp hot ?_)
  dsimp only
  rw [Int.toNat_natCast,hj]
  show wpAny _ _ (setField (.ref it) 0 (rawInt 0) >>= _) _ _ s
  refine wpAny_bind (wpAny_setField hit rfl (by simp) ?_)
  have h1:(s.heap.update it (Obj.mapFields (·.setIfInBounds 0 (rawInt 0)))).get? it = some (sIt (rawInt 0) i a n ep):=Heap.get?_update_self (Obj.mapFields (·.setIfInBounds 0 (rawInt 0))) hit rfl
  show wpAny _ _ (setField (.ref it) 2 .none >>= _) _ _ _
  refine wpAny_bind (wpAny_setField h1 rfl (by simp) ?_)
  exact stop_any (it:=it) (h0:=s.heap) hh hQ ((Heap.SameBut.update ..).trans (Heap.SameBut.update ..)).extBut
end
end L2
namespace L2
open PySem PySem.Spec PyProof.Rows
section
variable {P:Program} {w:World} {A:Around} {E:Value→Shared→Prop} {s:Shared}
theorem byText_any {Q:Bool→Shared→Prop} (h:Q (byT w) s):wpAny (model P w) A setsByText Q E s:=by
  unfold setsByText
  exact wpAny_bind (wpAny_askSetting (wpAny_pure h))
theorem iter_set {a:Addr} {S:Str→Bool} {n ep:Nat} {es:Array (Int × Value)} {t:SetTable} {Q:Value→Shared→Prop} (T:SetT P w s.heap a S n es ep t) (hz:n≤sizeLine)
    (h1:(byT w = true∨n≤1)→Q (.ref s.heap.objs.size) { s with heap:=s.heap.push (sIt (rawInt 0) 0 a n ep) })
    (h2:∀ (pl:List Nat) d,pl.Perm (List.range n)→byT w = false→2≤n→Q (.ref (s.heap.objs.size + 1)) { s with heap:=(s.heap.push { cls:=.type "tuple", data:=.seq (pl.map fun (i:Nat)=>rawInt i).toArray }).push (sIt (.ref s.heap.objs.size) 0 a n ep),drawn:=d }) :
    wpAny (model P w) A (pyIter (.ref a)) Q E s:=by
  obtain ⟨o,ho,hx,hd⟩:=id T.at_
  have hT:s.TypeIs (.ref a) "set" := ⟨o,ho,hx.1⟩
  refine wpAny_pyIter_slot hT slot_set_iter (wpAny_call_entry slot_set_iter hT entry_set_iter ?_ (args_set_iter _))
  show wpAny _ _ (Builtin.Frozenset.sizeOf a >>= _) _ _ s
  unfold Builtin.Frozenset.sizeOf
  refine wpAny_bind (wpAny_bind (wpAny_setEntries_of ho hd T.fit (wpAny_pure ?_)))
  rw [T.size]
  refine wpAny_bind ?_
  refine wpAny_bind (wpAny_setState_of ho hd T.fit ?_)
  dsimp only
  refine wpAny_bind (byText_any (wpAny_pure ?_))
  show wpAny _ _ (if (!byT w && (!t.plain && decide (es.size > 1))) = true then _ else _) _ _ s
  have fin:∀ (first:Value) {s':Shared},SetT P w s'.heap a S n es ep t→Q (.ref s'.heap.objs.size) { s' with heap:=s'.heap.push (sIt first 0 a n ep) }→wpAny (model P w) A.in1 (do
      let __do_lift ← setEpoch a
      let __do_lift ← newFields "set_iterator" [first,rawInt 0,.ref a,rawInt (n:Int),rawInt (__do_lift:Int)]
      ret __do_lift) (fun fin s''=>∃ v,fin = .done (.ret v)∧∃ T' r,s''.TypeIs v T'∧typeLookup (.type T') "__next__" = pure (some r)∧Q v s'') E s':=fun first s' T' hq=>by
    obtain ⟨o',ho',hx',hd'⟩:=T'.at_
    refine wpAny_bind (wpAny_setEpoch_of ho' hd' T'.fit ?_)
    exact wpAny_bind (wpAny_newObj_type (wpAny_pure ⟨_,rfl,"set_iterator", _,⟨_,Heap.get?_push_size _ rfl,rfl⟩,slot_setiter_next.lookup,hq⟩))
  by_cases c:(!byT w && (!t.plain && decide (es.size > 1))) = true
  · rw [if_pos c]
    have c1:byT w = false:=by cases h:byT w with | false=>rfl | true=>rw [h] at c; cases c
    have c2:2≤n:=by
      rw [Bool.and_eq_true,Bool.and_eq_true] at c
      have:=of_decide_eq_true c.2.2
      have:=T.size
      omega
    refine wpAny_bind (draw_perm n (List.range n) List.length_range fun pl d pm=>?_)
    have lp:pl.length = n:=by rw [pm.length_eq,List.length_range]
    refine wpAny_bind (wpAny_newObj_type ?_ (by show (pl.map fun (i:Nat)=>rawInt i).toArray.size≤sizeLine; simpa [lp] using hz))
    refine fin _ (s':={ s with heap:=s.heap.push { cls:=.type "tuple", data:=.seq (pl.map fun (i:Nat)=>rawInt i).toArray },drawn:=d }) (T.keep fun o e=>Heap.get?_push_of_some _ e) ?_
    have e:(s.heap.push { cls:=.type "tuple", data:=.seq (pl.map fun (i:Nat)=>rawInt i).toArray }).objs.size = s.heap.objs.size + 1:=Heap.size_push ..
    have y:=h2 pl d pm c1 c2
    rw [← e] at y
    exact y
  · rw [if_neg c]
    refine wpAny_bind (wpAny_pure ?_)
    refine fin _ T (h1 ?_)
    cases hb:byT w with
    | true=>exact .inl rfl
    | false =>
      refine .inr ?_
      rcases Nat.lt_or_ge 1 n with z | z
      · have pf:=T.plain (by omega)
        exact absurd (by rw [hb,pf,decide_eq_true (show es.size > 1 by have:=T.size; omega)]; rfl) c
      · exact z
theorem next_text {a:Addr} {S:Str→Bool} {n f i ep:Nat} {es:Array (Int × Value)} {t:SetTable} {Q:Option (Value × Nat)→Shared→Prop} (T:SetT P w s.heap a S n es ep t) (hb:byT w = true) (h:Q (((pickOrder (w.params.setOrder a ep) es)[i]?).map fun e=>(e.2,f)) s):wpAny (model P w) A (setNext a f i ep) Q E s:=by
  obtain ⟨o,ho,hx,hd⟩:=id T.at_
  unfold setNext
  refine wpAny_bind (wpAny_setState_of ho hd T.fit ?_)
  dsimp only
  refine wpAny_bind (byText_any ?_)
  rw [if_pos hb,if_neg (show ¬ (ep != ep) = true by simp)]
  refine wpAny_bind ?_
  unfold setWalk
  refine wpAny_bind (wpAny_setState_of ho hd T.fit ?_)
  dsimp only
  refine wpAny_bind (byText_any ?_)
  rw [if_pos hb]
  refine wpAny_bind (wpAny_askSetting (wpAny_pure ?_))
  exact wpAny_pure h
theorem next_one {a:Addr} {S:Str→Bool} {n f i ep:Nat} {es:Array (Int × Value)} {t:SetTable} {Q:Option (Value × Nat)→Shared→Prop} (T:SetT P w s.heap a S n es ep t) (hb:byT w = false) (h1:n≤1) (h:Q (match es[SetTable.below t.place f]?,t.place[SetTable.below t.place f]? with | some (_,x),some j=>some (x,j + 1) | _,_=>none) s):wpAny (model P w) A (setNext a f i ep) Q E s:=by
  obtain ⟨o,ho,hx,hd⟩:=id T.at_
  unfold setNext
  refine wpAny_bind (wpAny_setState_of ho hd T.fit ?_)
  dsimp only
  refine wpAny_bind (byText_any ?_)
  rw [if_neg (by rw [hb]; exact Bool.false_ne_true)]
  show wpAny _ _ (if (!t.plain && decide (es.size > 1)) = true then _ else _) _ _ s
  have es1:decide (es.size > 1) = false:=decide_eq_false (by have:=T.size; omega)
  rw [es1,Bool.and_false,if_neg Bool.false_ne_true]
  refine wpAny_bind ?_
  show wpAny _ _ (if (!t.led && !es.isEmpty) = true then _ else _) _ _ s
  have ld:t.led = true:=by rw [T.led,hb]; rfl
  rw [ld]
  rw [show (!true && !es.isEmpty) = false from rfl,if_neg Bool.false_ne_true]
  exact wpAny_pure (wpAny_pure h)
end
end L2
namespace L2
open PySem PySem.Spec PyProof.Rows
section
variable {P:Program} {w:World} {A:Around} {E:Value→Shared→Prop} {s:Shared}
theorem iter_self {I a:Addr} {first:Value} {i n ep:Nat} {Q:Value→Shared→Prop} (hit:s.heap.get? I = some (sIt first i a n ep)) (h:Q (.ref I) s):wpAny (model P w) A (pyIter (.ref I)) Q E s:=by
  have hT:s.TypeIs (.ref I) "set_iterator" := ⟨_,hit,rfl⟩
  refine wpAny_pyIter_slot hT slot_setiter_iter (wpAny_call_entry slot_setiter_iter hT entry_setiter_iter ?_ (args_setiter_iter _))
  show wpAny _ _ (ret (.ref I)) _ _ s
  exact wpAny_pure ⟨_,rfl,"set_iterator", _,hT,slot_setiter_next.lookup,h⟩
theorem walk_text {I a:Addr} {S:Str→Bool} {n ep:Nat} {es:Array (Int × Value)} {t:SetTable} (hh:A.handled = none) (hne:a≠I) (hb:byT w = true) (hn:es.size = n) :
    Walks P w A I [I,a] [I] n (fun i v=>((pickOrder (w.params.setOrder a ep) es).toList.map (·.2))[i]? = some v) (fun i h=>h.get? I = some (sIt (rawInt 0) i a n ep)∧SetT P w h a S n es ep t) where
  sub:=fun b hb=>by simp at hb; simp [hb]
  frame:=fun _ _ _ st hk=>⟨hk I (by simp) _ st.1,st.2.keep fun o e=>hk a (by simp) o e⟩
  item:=fun i s Q E hi st hQ=>by
    have len:(pickOrder (w.params.setOrder a ep) es).size = n:=by rw [← Array.length_toList,(pick_perm _ es).length_eq,Array.length_toList,hn]
    obtain ⟨e,he⟩:∃ e,(pickOrder (w.params.setOrder a ep) es)[i]? = some e:=⟨_,Array.getElem?_eq_getElem (by omega)⟩
    refine next_set (g:=0) (x:=e.2) st.2 st.1 (fun q=>next_text st.2 hb (by rw [he]; exact q)) fun h' h1 sb=>?_
    refine hQ _ h' s.toks ?_ ⟨h1,st.2.keep fun o e=>sb.extBut a o hne e⟩ fun b o hb e=>sb.extBut b o (fun z=>hb (by simp [z])) e
    rw [List.getElem?_map,Array.getElem?_toList,he]
    rfl
  done:=fun s Q E st hQ=>by
    have len:(pickOrder (w.params.setOrder a ep) es).size = n:=by rw [← Array.length_toList,(pick_perm _ es).length_eq,Array.length_toList,hn]
    refine end_set hh st.2 st.1 (fun q=>next_text st.2 hb (by rw [Array.getElem?_eq_none (by omega)]; exact q)) fun h' eb=>hQ h' s.toks fun b o hb e=>eb b o (fun z=>hb (by simp [z])) e
  self:=fun _ _ _ _ st hQ=>iter_self st.1 hQ
theorem walk_drawn {I a tp:Addr} {S:Str→Bool} {n ep:Nat} {es:Array (Int × Value)} {t:SetTable} {pl:List Nat} (hh:A.handled = none) (hne:a≠I) (htn:tp≠I) (hn:es.size = n) (pm:pl.Perm (List.range n)) :
    Walks P w A I [I,a,tp] [I] n (fun i v=>(pl.map fun j=>((es[j]?).map (·.2)).getD .none)[i]? = some v) (fun i h=>h.get? I = some (sIt (.ref tp) i a n ep)∧SetT P w h a S n es ep t∧h.get? tp = some { cls:=.type "tuple", data:=.seq (pl.map fun (i:Nat)=>rawInt i).toArray }) where
  sub:=fun b hb=>by simp at hb; simp [hb]
  frame:=fun _ _ _ st hk=>⟨hk I (by simp) _ st.1,st.2.1.keep fun o e=>hk a (by simp) o e,hk tp (by simp) _ st.2.2⟩
  item:=fun i s Q E hi st hQ=>by
    have len:pl.length = n:=by rw [pm.length_eq,List.length_range]
    obtain ⟨j,hj⟩:∃ j,pl[i]? = some j:=⟨_,List.getElem?_eq_getElem (by omega)⟩
    have jn:j < n:=List.mem_range.mp (pm.mem_iff.mp (List.mem_of_getElem? hj))
    obtain ⟨e,he⟩:∃ e,es[j]? = some e:=⟨_,Array.getElem?_eq_getElem (by omega)⟩
    refine next_drawn (j:=j) st.2.1 st.1 st.2.2 rfl (by rw [List.getElem?_toArray,List.getElem?_map,hj]; rfl) he fun h' h1 sb=>?_
    refine hQ _ h' s.toks ?_ ⟨h1,st.2.1.keep fun o e=>sb.extBut a o hne e,sb.extBut tp _ htn st.2.2⟩ fun b o hb e=>sb.extBut b o (fun z=>hb (by simp [z])) e
    rw [List.getElem?_map,hj]
    show some (((es[j]?).map (·.2)).getD .none) = _
    rw [he]
    rfl
  done:=fun s Q E st hQ=>by
    have len:pl.length = n:=by rw [pm.length_eq,List.length_range]
    refine end_drawn hh st.2.1 st.1 st.2.2 rfl (by rw [List.getElem?_toArray]; exact List.getElem?_eq_none (by rw [List.length_map]; omega)) fun h' eb=>hQ h' s.toks fun b o hb e=>eb b o (fun z=>hb (by simp [z])) e
  self:=fun _ _ _ _ st hQ=>iter_self st.1 hQ
theorem below_zero {xs:Array Nat} (h:xs.size≤1):SetTable.below xs 0 = 0:=by
  unfold SetTable.below
  rcases (by omega:xs.size = 0∨xs.size = 1) with e | e <;> rw [e]
  · rfl
  · unfold SetTable.below.go
    simp [SetTable.below.go]
theorem below_next {xs:Array Nat} {j:Nat} (h:xs.size = 1) (e:xs[0]? = some j):SetTable.below xs (j + 1) = 1:=by
  unfold SetTable.below
  rw [h]
  unfold SetTable.below.go
  simp [SetTable.below.go,Array.getD_eq_getD_getElem?,e]
theorem walk_one {I a:Addr} {S:Str→Bool} {n ep:Nat} {es:Array (Int × Value)} {t:SetTable} (hh:A.handled = none) (hne:a≠I) (hb:byT w = false) (h1:n≤1) (hn:es.size = n) (hf:t.fits es.size = true) :
    Walks P w A I [I,a] [I] n (fun i v=>(es.toList.map (·.2))[i]? = some v) (fun i h=>(∃ f:Nat,h.get? I = some (sIt (rawInt f) i a n ep)∧SetTable.below t.place f = i)∧SetT P w h a S n es ep t) where
  sub:=fun b hb=>by simp at hb; simp [hb]
  frame:=fun _ _ _ st hk=>⟨let ⟨f,x,y⟩:=st.1; ⟨f,hk I (by simp) _ x,y⟩,st.2.keep fun o e=>hk a (by simp) o e⟩
  item:=fun i s Q E hi st hQ=>by
    obtain ⟨⟨f,st1,hbl⟩,st2⟩:=st
    have ei:i = 0:=by omega
    subst ei
    have ps:t.place.size = 1:=by
      have hf':=hf
      unfold SetTable.fits at hf'
      rw [Bool.and_eq_true,beq_iff_eq] at hf'
      omega
    obtain ⟨e,he⟩:∃ e,es[0]? = some e:=⟨_,Array.getElem?_eq_getElem (by omega)⟩
    obtain ⟨j,hj⟩:∃ j,t.place[0]? = some j:=⟨_,Array.getElem?_eq_getElem (by omega)⟩
    refine next_set (g:=j + 1) (x:=e.2) st2 st1 (fun q=>next_one st2 hb h1 (by rw [hbl,he,hj]; exact q)) fun h' h1 sb=>?_
    refine hQ _ h' s.toks ?_ ⟨⟨j + 1,h1,below_next ps hj⟩,st2.keep fun o e=>sb.extBut a o hne e⟩ fun b o hb e=>sb.extBut b o (fun z=>hb (by simp [z])) e
    rw [List.getElem?_map,Array.getElem?_toList,he]
    rfl
  done:=fun s Q E st hQ=>by
    obtain ⟨⟨f,st1,hbl⟩,st2⟩:=st
    refine end_set hh st2 st1 (fun q=>next_one st2 hb h1 (by rw [hbl,Array.getElem?_eq_none (by omega)]; exact q)) fun h' eb=>hQ h' s.toks fun b o hb e=>eb b o (fun z=>hb (by simp [z])) e
  self:=fun _ _ _ _ st hQ=>let ⟨f,x,_⟩:=st.1; iter_self x hQ
end
end L2
namespace L2
open PySem PySem.Spec PyProof.Rows
section
variable {P:Program} {w:World} {A:Around} {E:Value→Shared→Prop} {s:Shared}
def Wk (P:Program) (w:World) (A:Around) (I:Addr) (n:Nat) (vs:List Value) (h:Heap) (lo:Nat) (a:Addr):Prop:=∃ (fp:List Addr) (St:Nat→Heap→Prop),Walks P w A I fp [I] n (fun i v=>vs[i]? = some v) St∧St 0 h∧∀ b∈fp,b = a∨lo≤b
theorem iter_pack {B:Around} {a:Addr} {S:Str→Bool} {n ep:Nat} {es:Array (Int × Value)} {t:SetTable} {Q:Value→Shared→Prop} (T:SetT P w s.heap a S n es ep t) (hz:n≤sizeLine) (hh:A.handled = none)
    (q:∀ I h d vs,(∀ b o,s.heap.get? b = some o→h.get? b = some o)→vs.Perm (es.toList.map (·.2))→s.heap.objs.size≤I→Wk P w A I n vs h s.heap.objs.size a→Q (.ref I) { s with heap:=h,drawn:=d }) :
    wpAny (model P w) B (pyIter (.ref a)) Q E s:=by
  have la:a < s.heap.objs.size:=by
    obtain ⟨o,ho,_⟩:=T.at_
    exact Heap.lt_size ho
  refine iter_set T hz (fun c=>?_) fun pl d pm c1 c2=>?_
  · have k:∀ b o,s.heap.get? b = some o→(s.heap.push (sIt (rawInt 0) 0 a n ep)).get? b = some o:=fun b o e=>Heap.get?_push_of_some _ e
    have gI:(s.heap.push (sIt (rawInt 0) 0 a n ep)).get? s.heap.objs.size = some (sIt (rawInt 0) 0 a n ep):=Heap.get?_push_size _ rfl
    have T':=T.keep (h':=s.heap.push (sIt (rawInt 0) 0 a n ep)) fun o e=>k a o e
    have near:∀ b∈[s.heap.objs.size,a],b = a∨s.heap.objs.size≤b:=fun b hb=>by
      rcases List.mem_cons.mp hb with z | z
      · exact .inr (Nat.le_of_eq z.symm)
      · exact .inl (List.mem_singleton.mp z)
    cases hb:byT w with
    | true=>exact q s.heap.objs.size (s.heap.push (sIt (rawInt 0) 0 a n ep)) s.drawn _ k ((pick_perm (w.params.setOrder a ep) es).map _) (Nat.le_refl _) ⟨_,_,walk_text hh (Nat.ne_of_lt la) hb T.size,⟨gI,T'⟩,near⟩
    | false =>
      have h1:n≤1:=c.elim (fun z=>by rw [hb] at z; cases z) id
      have ps:t.place.size≤1:=by
        have hf':=T.fit
        unfold SetTable.fits at hf'
        rw [Bool.and_eq_true,beq_iff_eq] at hf'
        have:=T.size
        omega
      exact q s.heap.objs.size (s.heap.push (sIt (rawInt 0) 0 a n ep)) s.drawn _ k (.refl _) (Nat.le_refl _) ⟨_,_,walk_one hh (Nat.ne_of_lt la) hb h1 T.size T.fit,⟨⟨0,gI,below_zero ps⟩,T'⟩,near⟩
  · have e1:(s.heap.push { cls:=.type "tuple", data:=.seq (pl.map fun (i:Nat)=>rawInt i).toArray }).objs.size = s.heap.objs.size + 1:=Heap.size_push ..
    have k:∀ b o,s.heap.get? b = some o→((s.heap.push { cls:=.type "tuple", data:=.seq (pl.map fun (i:Nat)=>rawInt i).toArray }).push (sIt (.ref s.heap.objs.size) 0 a n ep)).get? b = some o:=fun b o e=>Heap.get?_push_of_some _ (Heap.get?_push_of_some _ e)
    have gI:((s.heap.push { cls:=.type "tuple", data:=.seq (pl.map fun (i:Nat)=>rawInt i).toArray }).push (sIt (.ref s.heap.objs.size) 0 a n ep)).get? (s.heap.objs.size + 1) = some (sIt (.ref s.heap.objs.size) 0 a n ep):=by
      rw [← e1]
      exact Heap.get?_push_size _ rfl
    have gt:((s.heap.push { cls:=.type "tuple", data:=.seq (pl.map fun (i:Nat)=>rawInt i).toArray }).push (sIt (.ref s.heap.objs.size) 0 a n ep)).get? s.heap.objs.size = some { cls:=.type "tuple", data:=.seq (pl.map fun (i:Nat)=>rawInt i).toArray }:=Heap.get?_push_of_some _ (Heap.get?_push_size _ rfl)
    refine q (s.heap.objs.size + 1) _ d (pl.map fun j=>((es[j]?).map (·.2)).getD .none) k ?_ (Nat.le_succ _) ⟨_,_,walk_drawn (tp:=s.heap.objs.size) hh (Nat.ne_of_lt (Nat.lt_succ_of_lt la)) (Nat.ne_of_lt (Nat.lt_succ_self _)) T.size pm,⟨gI,T.keep fun o e=>k a o e,gt⟩,fun b hb=>?_⟩
    · refine (pm.map _).trans ?_
      refine List.Perm.of_eq ?_
      refine List.ext_getElem? fun i=>?_
      have this:=T.size
      have er:(es.toList.map (·.2))[i]? = (es[i]?).map (·.2):=by rw [List.getElem?_map,Array.getElem?_toList]
      rw [er,List.getElem?_map]
      by_cases hi:i < n
      · rw [List.getElem?_range hi,Array.getElem?_eq_getElem (by omega)]
        show some (((es[i]?).map (·.2)).getD .none) = _
        rw [Array.getElem?_eq_getElem (by omega)]
        rfl
      · rw [List.getElem?_eq_none (by simp; omega),Array.getElem?_eq_none (by omega)]
        rfl
    · rcases List.mem_cons.mp hb with z | z
      · right; rw [z]; exact Nat.le_succ _
      · rcases List.mem_cons.mp z with z | z
        · exact .inl z
        · right; rw [List.mem_singleton.mp z]; exact Nat.le_refl _
theorem hint_set {a:Addr} {Q:Bool→Shared→Prop} (hT:s.TypeIs (.ref a) "set") (h:Q false s):wpAny (model P w) A (Builtin.List.listLengthHint (.ref a)) Q E s:=by
  unfold Builtin.List.listLengthHint
  refine wpAny_bind (wpAny_specialOf hT PySem.F.slot_set_len.lookup ?_)
  generalize hid:("set.__len__" : String) = id0
  wp_delta
  rw [show splitId id0 = some ("set", "__len__") from by subst hid; decide +kernel]
  subst hid
  refine wpAny_bind (wpAny_isInstance (T := "set") (b:=true) hT (by rw [isSubtype_type]; kernel_rfl) ?_)
  refine wpAny_ite_split (fun hab=>absurd hab (by decide)) (fun _=>?_)
  refine wpAny_ite_split (fun _=>?_) (fun hab=>absurd (by decide +kernel) hab)
  refine wpAny_bind (wpAny_typeOf hT ?_)
  exact wpAny_pure h
theorem set_collect {a:Addr} {S:Str→Bool} {n ep:Nat} {es:Array (Int × Value)} {t:SetTable} {R:List Value→Shared→Prop} (T:SetT P w s.heap a S n es ep t) (hh:A.handled = none) (hz:n≤sizeLine)
    (h:∀ (h':Heap) (d:Drawn) (tk:Nat) (vs:List Value),(∀ b o,s.heap.get? b = some o→h'.get? b = some o)→vs.Perm (es.toList.map (·.2))→R vs { s with heap:=h',drawn:=d,toks:=tk }) :
    wpAny (model P w) A (collect (.ref a)) R E s:=by
  have la:a < s.heap.objs.size:=by
    obtain ⟨o,ho,_⟩:=T.at_
    exact Heap.lt_size ho
  unfold collect
  refine wpAny_bind (wpAny_runValue (codeAny_builtin entry_proto_collect' ?_))
  rw [Around.under_plainId PySem.F.plain_proto_collect _]
  show wpAny _ A.in1 (newList [] >>= fun l=>again (.builtin "list.__iadd__" ⟨[l,.ref a],[]⟩)) _ _ s
  refine wpAny_bind (wpAny_newObj_type ?_)
  refine wpAny_pure ⟨plainId_quiet PySem.F.plain_list_iadd _,codeAny_builtin entry_list_iadd' ?_⟩
  rw [Around.under_plainId PySem.F.plain_list_iadd _]
  have gL:(s.heap.push { cls:=.type "list", data:=.seq ([]:List Value).toArray }).get? s.heap.objs.size = some { cls:=.type "list", data:=.seq #[] }:=Heap.get?_push_size _ rfl
  have kL:∀ b o,s.heap.get? b = some o→(s.heap.push { cls:=.type "list", data:=.seq ([]:List Value).toArray }).get? b = some o:=fun b o e=>Heap.get?_push_of_some _ e
  have sL:(s.heap.push { cls:=.type "list", data:=.seq ([]:List Value).toArray }).objs.size = s.heap.objs.size + 1:=Heap.size_push ..
  have T1:=T.keep (h':=s.heap.push { cls:=.type "list", data:=.seq ([]:List Value).toArray }) fun o e=>kL a o e
  show wpAny _ A.in1 (Builtin.List.listExtendWith (.ref s.heap.objs.size) (.ref a) (.ref s.heap.objs.size)) _ _ _
  generalize s.heap.push { cls:=.type "list", data:=.seq ([]:List Value).toArray } = h1 at gL kL sL T1 ⊢
  obtain ⟨o,ho,hx,hd⟩:=id T1.at_
  have hT:Shared.TypeIs { s with heap:=h1 } (.ref a) "set" := ⟨o,ho,hx.1⟩
  unfold Builtin.List.listExtendWith
  refine wpAny_bind (wpAny_typeOf (T := "set") hT ?_)
  have c1:Builtin.List.listSameRef (.ref s.heap.objs.size) (.ref a) = false:=by simp [Builtin.List.listSameRef,Nat.ne_of_gt la]
  have c2:(Value.type "set" == Value.type "list") = false:=by decide
  have c3:(Value.type "set" == Value.type "tuple") = false:=by decide
  simp only [c1,c2,c3,Bool.or_false,Bool.false_eq_true,if_false]
  refine wpAny_bind (iter_pack (A:=A.in1) (s:={ s with heap:=h1 }) T1 hz (by simpa using hh) fun I h2 d vs k2 pm hI W=>?_)
  obtain ⟨fp,St,W,st,near⟩:=W
  have nL:s.heap.objs.size ∉ fp:=fun m=>by
    rcases near _ m with z | z
    · exact absurd z (Nat.ne_of_gt la)
    · have z':h1.objs.size≤s.heap.objs.size:=z
      omega
  have lv:vs.length = n:=by rw [pm.length_eq,List.length_map,Array.length_toList,T.size]
  have key:∀ (h3:Heap) (c tk:Nat),St 0 h3→(∀ b o,b≠s.heap.objs.size→h2.get? b = some o→h3.get? b = some o)→h3.get? s.heap.objs.size = some { cls:=.type "list", data:=.seq #[] c } →
      ∀ (R':Result→Shared→Prop),(∀ h' tk' acc c',(∀ b o,s.heap.get? b = some o→h'.get? b = some o)→h'.get? s.heap.objs.size = some { cls:=.type "list", dict:=none,data:=.seq acc c',slots:=#[] }→acc.toList = vs→R' (.ok (.ret (.ref s.heap.objs.size))) { s with heap:=h',drawn:=d,toks:=tk' }) →
      codeAny (model P w) A (.builtin "list.extend.loop" ⟨[.ref s.heap.objs.size,.ref I,.ref s.heap.objs.size],[]⟩) R' { s with heap:=h3,drawn:=d,toks:=tk }:=fun h3 c tk st3 k3 g3 R' hR=>by
    refine codeAny_extend_loopS W.toS hz s.heap.objs.size nL _ n 0 _ #[] c rfl (Nat.zero_le _) st3 g3 (ItemsOf.nil _) fun s' acc c' hm hS' hacc=>?_
    rw [Moved.eq_with hm]
    refine hR s'.heap s'.toks acc c' (fun b o e=>?_) hS' ?_
    · have nb:b≠s.heap.objs.size:=Nat.ne_of_lt (Heap.lt_size e)
      refine hm.heap b o (fun hmem=>?_) (k3 b o nb (k2 b o (kL b o e)))
      rcases List.mem_cons.mp hmem with z | z
      · exact nb z
      · have z':=List.mem_singleton.mp z
        have l1:=Heap.lt_size e
        have l2:h1.objs.size≤I:=hI
        have l3:b < h1.objs.size:=by rw [sL]; exact Nat.lt_succ_of_lt l1
        rw [z'] at l3
        exact absurd (Nat.lt_of_lt_of_le l3 l2) (Nat.lt_irrefl _)
    · refine List.ext_getElem? fun i=>?_
      have sz:=hacc.1
      rw [Array.getElem?_toList]
      by_cases hi:i < n
      · rw [Array.getElem?_eq_getElem (by omega)]
        exact (hacc.2 i _ (Array.getElem?_eq_getElem (by omega))).symm
      · rw [Array.getElem?_eq_none (by omega),List.getElem?_eq_none (by omega)]
  refine wpAny_bind (wpAny_holding (hint_set (s:={ s with heap:=h2,drawn:=d }) ⟨o,k2 a o ho,hx.1⟩ ?_))
  have g2:=k2 _ _ gL
  have last:∀ h' tk' (acc:Array Value) c',(∀ b o,s.heap.get? b = some o→h'.get? b = some o)→h'.get? s.heap.objs.size = some { cls:=.type "list", dict:=none,data:=.seq acc c',slots:=#[] }→acc.toList = vs→wpAny (model P w) A (load s.heap.objs.size >>= fun o=>match o.data with | .seq items _=>pure items.toList | _=>unsupported "internal:collect") R E { s with heap:=h',drawn:=d,toks:=tk' }:=fun h' tk' acc c' kk hS' ea=>by
    refine wpAny_bind (wpAny_load hS' ?_)
    show wpAny _ _ (pure acc.toList) _ _ _
    rw [ea]
    exact wpAny_pure (h h' d tk' vs kk pm)
  refine wpAny_ite_split (fun _=>?_) (fun _=>wpAny_pure ⟨plainId_quiet PySem.F.plain_extend_loop _,key h2 _ _ st (fun b o _ e=>e) g2 _ fun h' tk' acc c' kk hS' ea=>?_⟩)
  · refine wpAny_bind (wpAny_rule ?_)
    refine wpAny_bind ?_
    show wpAny _ _ (updateSeq s.heap.objs.size (·.push .none) >>= fun _=>updateSeq s.heap.objs.size (·.pop)) _ _ _
    refine wpAny_bind (wpAny_updateSeq g2 rfl ?_)
    have g3:=Heap.get?_update_self (Obj.mapSeq (·.push Value.none)) g2 rfl
    refine wpAny_updateSeq (hz:=by seq_fits) g3 rfl ?_
    have g4:=Heap.get?_update_self (Obj.mapSeq (·.pop)) g3 rfl
    have oth:∀ b o,b≠s.heap.objs.size→h2.get? b = some o→((h2.update s.heap.objs.size (Obj.mapSeq (·.push Value.none))).update s.heap.objs.size (Obj.mapSeq (·.pop))).get? b = some o:=fun b o nb e=>(Heap.get?_update_other _ _ (Ne.symm nb)).trans ((Heap.get?_update_other _ _ (Ne.symm nb)).trans e)
    refine wpAny_pure ⟨plainId_quiet PySem.F.plain_extend_loop _,key _ _ _ (W.frame 0 _ _ st fun b hb o e=>oth b o (fun z=>nL (z ▸ hb)) e) oth g4 _ fun h' tk' acc c' kk hS' ea=>?_⟩
    exact last h' tk' acc c' kk hS' ea
  · exact last h' tk' acc c' kk hS' ea
end
end L2
namespace L2
open PySem PySem.Spec PyProof.Rows
theorem dd_nd (xs:List Str):(dd xs).Nodup:=by
  suffices h:∀ acc:List Str,acc.Nodup→(xs.foldl met acc).Nodup from h [] List.nodup_nil
  induction xs with
  | nil=>exact fun acc h=>h
  | cons x r ih =>
    intro acc h
    refine ih _ ?_
    unfold met
    split
    · exact h
    · rename_i c
      refine List.nodup_append.mpr ⟨h,by simp,fun a ha b hb e=>c ?_⟩
      have eb:b = x:=by simpa using hb
      rw [List.any_eq_true]
      exact ⟨a,ha,by rw [e,eb]; simp⟩
theorem dd_mem {xs:List Str} {k:Str}:k∈dd xs↔k∈xs:=by
  have:=dd_any xs k
  constructor
  · intro h
    have h1:(dd xs).any (· == k) = true:=List.any_eq_true.mpr ⟨k,h,by simp⟩
    rw [this] at h1
    obtain ⟨y,hy,e⟩:=List.any_eq_true.mp h1
    rw [← eq_of_beq e]; exact hy
  · intro h
    have h1:xs.any (· == k) = true:=List.any_eq_true.mpr ⟨k,h,by simp⟩
    rw [← this] at h1
    obtain ⟨y,hy,e⟩:=List.any_eq_true.mp h1
    rw [← eq_of_beq e]; exact hy
theorem perm_sub {α:Type} [BEq α] [LawfulBEq α]:∀ {xs ys:List α},xs.Nodup→(∀ x∈xs,x∈ys)→ys.length = xs.length→ys.Perm xs
  | [],ys,_,_,hl=>by rw [List.eq_nil_of_length_eq_zero hl]
  | x :: xs,ys,nd,hs,hl=>by
    have hx:=hs x List.mem_cons_self
    obtain ⟨n1,n2⟩:=List.nodup_cons.mp nd
    refine (List.perm_cons_erase hx).trans ?_
    refine (perm_sub n2 (fun y hy=>?_) ?_).cons x
    · exact (List.mem_erase_of_ne (fun e:y = x=>n1 (e ▸ hy))).mpr (hs y (List.mem_cons_of_mem _ hy))
    · rw [List.length_erase_of_mem hx,hl]; rfl
def txt:Value→Str
  | .str k _=>k
  | _ => ""
section
variable {P:Program} {w:World}
theorem SetT.keys {h:Heap} {a:Addr} {ts:List Str} {n ep:Nat} {es:Array (Int × Value)} {t:SetTable} (T:SetT P w h a (fun q=>(dd ts).any (· == q)) n es ep t) (hn:n = (dd ts).length) {vs:List Value} (pm:vs.Perm (es.toList.map (·.2))):StrsAre vs (vs.map txt)∧(vs.map txt).Perm (dd ts):=by
  have isS:∀ v∈vs,∃ k t,v = .str k t:=fun v hv=>by
    obtain ⟨e,he,rfl⟩:=List.mem_map.mp (pm.mem_iff.mp hv)
    obtain ⟨⟨k,hk,_⟩,_⟩:=T.el e he
    obtain ⟨t,et⟩:=Value.isStrOf_shape hk
    exact ⟨k,t,et⟩
  constructor
  · clear pm
    induction vs with
    | nil=>exact .nil
    | cons v vs ih =>
      obtain ⟨k,t,rfl⟩:=isS v List.mem_cons_self
      exact .cons _ _ (ih fun v hv=>isS v (List.mem_cons_of_mem _ hv))
  · refine perm_sub (dd_nd ts) (fun k hk=>?_) ?_
    · obtain ⟨e,he,hp⟩:=(T.mem k).mp (List.any_eq_true.mpr ⟨k,hk,by simp⟩)
      obtain ⟨t,et⟩:=Value.isStrOf_shape hp
      refine List.mem_map.mpr ⟨e.2,pm.mem_iff.mpr (List.mem_map.mpr ⟨e,he,rfl⟩),?_⟩
      rw [et]; rfl
    · rw [List.length_map,pm.length_eq,List.length_map,Array.length_toList,T.size,hn]
end
section
variable {P:Program} {w:World} {A:Around} {E:Value→Shared→Prop} {s:Shared}
theorem sort_strs64 {a:Addr} {vs:List Value} {ns:List Str} {n:Nat} {Q:PySem.Fin→Shared→Prop} (ho:s.heap.get? a = some (seqObj "list" vs.toArray n)) (hI:StrsAre vs ns) (hz:vs.length < 64)
    (h:∀ (out:Array Value) (ms:List Str),StrsAre out.toList ms→ms.Perm ns→sortedS ms = true→Q (.done (.ret .none)) { s with heap:=sortedHeap s.heap a vs out }):wpAny (model P w) A (Builtin.«list.sort» ⟨[.ref a],[]⟩) Q E s:=by
  refine list_sort_treeK strKind_oneLt ho hI.keysOf (fun v₁ v₂ rest e=>keyKind_strs (by rw [← e]; exact hI)) hz fun st' hp hs=>?_
  obtain ⟨ms,h1,h2,h3⟩:=sorted_out_str hI hp hs
  exact h _ ms h1 h2 h3
end
section
variable {X:Cx}
theorem Inv.draws {pins:List (Addr × Obj)} {σ:List (Option V)} {H:Hp} {s:Shared} {d:Drawn} (I:Inv X pins σ H s):Inv X pins σ H { s with drawn:=d }:=⟨I.ok,I.os,I.bare,I.base,I.loc,I.cell,I.free,I.freeC,I.pin,I.hok,I.len⟩
def SetX (P:Program) (w:World) (a:Addr) (ts:List Str):HO:=.ext fun h=>SetTx P w h a (fun q=>(dd ts).any (· == q)) (dd ts).length
theorem call_setT (hc:X.calm = true):CallR X (.type "set") (fun xs H Q=>∃ (p:Addr) (ts:List Str),xs = [.ref p]∧SqL X.K H p (ts.map V.str)∧ts.length≤1000∧∀ q,H q = none→Q (.ref q) (upd H q (SetX X.prog X.w q ts))):=by
  intro pins s σ H xs us Q I r h
  obtain ⟨p,ts,rfl,hq,h100,q⟩:=h
  obtain ⟨u,rfl,rx⟩:=vals1 r
  cases rx
  obtain ⟨its,r',pl,hz⟩:=I.list hq
  refine set_strsT (I.ok.hd hc) pl.isList r' (Nat.lt_of_le_of_lt (Nat.add_le_add_right h100 1) (by decide)) fun h' tk hS hk=>?_
  refine ⟨.ref s.heap.objs.size,_,I.laid hk (Nat.le_refl _) (o:=SetX X.prog X.w s.heap.objs.size ts) ?_,rfl,q _ (I.hok.fresh (Nat.le_refl _))⟩
  refine ⟨hS,?_,?_⟩
  · obtain ⟨es,ep,t,T⟩:=hS
    obtain ⟨o,ho,_⟩:=T.at_
    exact ⟨o,ho⟩
  · intro h1 h2 z k
    exact z.keep fun o e=>k o e
theorem call_sorted_setD (hc:X.calm = true):CallR X (.builtin "sorted") (fun xs H Q=>∃ (p:Addr) (ts:List Str),xs = [.ref p]∧H p = some (SetX X.prog X.w p ts)∧(dd ts).length < 64∧∀ (l:Addr) (ms:List Str),H l = none→ms.Perm (dd ts)→sortedS ms = true→Q (.ref l) (upd H l (.lst (ms.map V.str)))):=by
  intro pins s σ H xs us Q I r h
  obtain ⟨p,ts,rfl,hp,h1000,q⟩:=h
  obtain ⟨u,rfl,rx⟩:=vals1 r
  cases rx
  obtain ⟨⟨es,ep,t,T⟩,_⟩:=(show SetTx X.prog X.w s.heap p (fun q=>(dd ts).any (· == q)) (dd ts).length∧_ from I.hok p _ hp)
  refine Calls.call_function_entry kind_sorted plain_sorted entry_sorted (args_sorted1 _) ?_
  unfold Builtin.«sorted»
  refine wpAny_bind (m:=checkCount "sorted" 1 1 _) (wpAny_pure ?_)
  refine wpAny_bind (set_collect T (I.ok.hd hc) (Nat.le_of_lt (small1000 (by omega))) fun h' d tk vs hk pm=>?_)
  obtain ⟨hS,pk⟩:=T.keys rfl pm
  have lv:vs.length = (dd ts).length:=by have:=pk.length_eq; rw [List.length_map] at this; exact this
  have hoL:(h'.push (seqObj "list" vs.toArray 0)).get? h'.objs.size = some (seqObj "list" vs.toArray 0):=Heap.get?_push_size _ rfl
  refine wpAny_bind (wpAny_newList ?_ (hsz:=by rw [lv]; exact Nat.le_of_lt (small1000 (by omega))))
  show wpAny _ _ _ _ _ { s with heap:=h'.push (seqObj "list" vs.toArray 0),drawn:=d,toks:=tk }
  refine wpAny_bind (wpAny_holding (wpAny_call_entry slot_list_sort ⟨_,hoL,rfl⟩ entry_list_sort (sort_strs64 hoL hS (by omega) fun out ms a1 a2 a3=>⟨_,rfl,?_⟩) (args_list_sort _)))
  refine wpAny_pure ⟨_,rfl,?_⟩
  have I1:Inv X pins σ H { s with heap:=h',drawn:=d,toks:=tk }:=(I.kept (t':=tk) hk).draws
  obtain ⟨e,he⟩:=sortedHeap_at (vs:=vs) (out:=out) hoL
  have hf:H h'.objs.size = none:=I1.hok.fresh (Nat.le_refl _)
  have hlm:=(a2.trans pk).length_eq
  have s64:=small1000 (n:=ms.length) (by omega)
  refine ⟨.ref h'.objs.size,_,I1.laid (t':=tk) (o:=.lst (ms.map V.str)) (fun b o e=>?_) (Nat.le_refl _) ?_,rfl,q _ ms hf (a2.trans pk) a3⟩
  · have lb:=Heap.lt_size e
    rw [sortedHeap_old (Nat.ne_of_lt lb) (by rw [size_push']; exact Nat.lt_succ_of_lt lb)]
    exact Heap.get?_push_of_some _ e
  · refine ⟨by rw [List.length_map]; exact Nat.le_of_lt s64,out.toList,e,vals_strs a1,?_⟩
    simpa using he
end
end L2
namespace Sen
open PySem L2
inductive Tr
  | s (x:Str)
  | e
  | c (h t:Tr)
def Tr.tup:Tr→Bool
  | .s _=>false
  | _=>true
def Tr.items:Tr→List Tr
  | .c h t=>h :: t.items
  | _=>[]
def atT (H:Hp):Tr→(V→Prop) × (List V→Prop)
  | .s x=>(fun v=>v = .str x,fun _=>False)
  | .e=>(fun v=>∃ p,v = .ref p∧H p = some (.tup []),fun vs=>vs = [])
  | .c h t=>(fun v=>∃ p vs,v = .ref p∧H p = some (.tup vs)∧∃ x xs,vs = x :: xs∧(atT H h).1 x∧(atT H t).2 xs,fun vs=>∃ x xs,vs = x :: xs∧(atT H h).1 x∧(atT H t).2 xs)
def IsT (H:Hp) (t:Tr) (v:V):Prop:=(atT H t).1 v
theorem atT_mono {H H':Hp} (g:Tups H H'):∀ t,(∀ v,(atT H t).1 v→(atT H' t).1 v)∧(∀ vs,(atT H t).2 vs→(atT H' t).2 vs)
  | .s x=>⟨fun _ h=>h,fun _ h=>h⟩
  | .e=>⟨fun _ ⟨p,e,h⟩=>⟨p,e,g _ _ h⟩,fun _ h=>h⟩
  | .c h t=>⟨fun _ ⟨p,vs,e,h1,x,xs,e2,h2,h3⟩=>⟨p,vs,e,g _ _ h1,x,xs,e2,(atT_mono g h).1 _ h2,(atT_mono g t).2 _ h3⟩,fun _ ⟨x,xs,e2,h2,h3⟩=>⟨x,xs,e2,(atT_mono g h).1 _ h2,(atT_mono g t).2 _ h3⟩⟩
theorem IsT.mono {H H':Hp} {t:Tr} {v:V} (h:IsT H t v) (g:Tups H H'):IsT H' t v:=(atT_mono g t).1 v h
theorem atT_items {H:Hp}:∀ {t:Tr} {vs:List V},(atT H t).2 vs→Paired (IsT H) t.items vs
  | .s _,_,h=>h.elim
  | .e,_,h=>by cases h; exact .nil
  | .c a t,_,⟨x,xs,e,h1,h2⟩=>by subst e; exact .cons h1 (atT_items h2)
theorem IsT.cut {H:Hp} {t:Tr} {p:Addr} (h:IsT H t (.ref p)):∃ vs,H p = some (.tup vs)∧Paired (IsT H) t.items vs:=by
  cases t with
  | s x=>cases h
  | e=>obtain ⟨q,e,h⟩:=h; cases e; exact ⟨_,h,.nil⟩
  | c a t=>obtain ⟨q,vs,e,h1,h2⟩:=h; cases e; exact ⟨vs,h1,atT_items (t:=.c a t) h2⟩
theorem IsT.tup {H:Hp} {t:Tr} {v:V} (h:IsT H t v) (e:t.tup = true):∃ p,v = .ref p:=by
  cases t with
  | s x=>cases e
  | e=>obtain ⟨q,e,h⟩:=h; exact ⟨q,e⟩
  | c a t=>obtain ⟨q,vs,e,h1,h2⟩:=h; exact ⟨q,e⟩
theorem IsT.str {H:Hp} {t:Tr} {v:V} (h:IsT H t v) (e:t.tup = false):∃ x,t = .s x∧v = .str x:=by
  cases t with
  | s x=>exact ⟨x,rfl,h⟩
  | e=>cases e
  | c a t=>cases e
section
variable {α β:Type} {R:α→β→Prop}
theorem pdTake:∀ {xs:List α} {ys:List β} (i:Nat),Paired R xs ys→Paired R (xs.take i) (ys.take i)
  | [],[],_,.nil=>by simp only [List.take_nil]; exact .nil
  | x :: xs,y :: ys,0,.cons _ t=>.nil
  | x :: xs,y :: ys,i + 1,.cons h t=>.cons h (pdTake i t)
theorem pdDrop:∀ {xs:List α} {ys:List β} (i:Nat),Paired R xs ys→Paired R (xs.drop i) (ys.drop i)
  | [],[],_,.nil=>by simp only [List.drop_nil]; exact .nil
  | x :: xs,y :: ys,0,.cons h t=>.cons h t
  | x :: xs,y :: ys,i + 1,.cons h t=>pdDrop i t
end
def lk (x:Str):Option (Nat × Nat):=(tb_SHAPES.find? fun e=>decide (e.1 = x)).map fun e=>(e.2.1.toNat,e.2.2.toNat)
theorem lk_some {x:Str} {m n:Nat} (h:lk x = some (m,n)):(x,(m:Int),(n:Int))∈tb_SHAPES∧m≤1∧n≤2:=by
  rw [lk,Option.map_eq_some_iff] at h
  obtain ⟨e,h1,h2⟩:=h
  have m1:=List.mem_of_find?_eq_some h1
  have m3:=List.find?_some h1
  have m2:e.1 = x:=of_decide_eq_true m3
  have z:∀ e∈tb_SHAPES,0≤e.2.1∧0≤e.2.2∧e.2.1≤1∧e.2.2≤2:=by decide +kernel
  obtain ⟨z1,z2,z3,z4⟩:=z e m1
  cases h2
  subst m2
  rw [Int.toNat_of_nonneg z1,Int.toNat_of_nonneg z2]
  exact ⟨m1,by omega,by omega⟩
theorem lk_none {x:Str} (h:lk x = none):∀ e∈tb_SHAPES,e.1≠x:=by
  rw [lk,Option.map_eq_none_iff,List.find?_eq_none] at h
  exact fun e he z=>h e he (decide_eq_true z)
def isMk:Tr→Bool
  | .s x=>decide (x∈letts)
  | _=>false
def shp (t:Tr):Bool :=
  match t.items with
  | .s x :: r=>match lk x with
    | some (m,n)=>decide (r.length = m + n) && (r.take m).all isMk && (r.drop m).all Tr.tup
    | none=>false
  | _=>false
def pts (t:Tr):List Tr :=
  match t.items with
  | .s x :: r=>match lk x with
    | some (m,_)=>r.drop m
    | none=>[]
  | _=>[]
def lev:Nat→Nat→List Tr→Bool
  | 0,_,ts=>ts.isEmpty
  | f + 1,t,ts=>ts.isEmpty || (decide (t + ts.length≤200) && ts.all shp && lev f (t + ts.length) (ts.flatMap pts))
theorem shp_cut {t:Tr} (h:shp t = true):∃ x m n r,t.items = .s x :: r∧lk x = some (m,n)∧r.length = m + n∧(r.take m).all isMk = true∧(r.drop m).all Tr.tup = true∧pts t = r.drop m:=by
  unfold shp at h
  unfold pts
  split at h
  · rename_i x r e
    split at h
    · rename_i m n e2
      rw [Bool.and_eq_true,Bool.and_eq_true] at h
      refine ⟨x,m,n,r,e,e2,of_decide_eq_true h.1.1,h.1.2,h.2,rfl⟩
    · cases h
  · cases h
inductive spMarkX (vs:List V) (H:Hp) (Q:VK) (E9:XK):Prop
  | mk (t:Tr) (v:V) (_:vs = [v]) (_:IsT H t v) (_:Q (.bl (isMk t)) H):spMarkX vs H Q E9
theorem mono_markX:SpMono spMarkX:=fun vs H Q Q' E h ⟨t,v,e,h1,q⟩=>⟨t,v,e,h1,h _ _ q⟩
inductive spShapedX (vs:List V) (H:Hp) (Q:VK) (E9:XK):Prop
  | mk (p:Addr) (t:Tr) (_:vs = [.ref p]) (_:IsT H t (.ref p)) (_:∀ H',Same H H'→Q (.bl (shp t)) H'):spShapedX vs H Q E9
theorem mono_shapedX:SpMono spShapedX:=fun vs H Q Q' E h ⟨p,t,e,h1,q⟩=>⟨p,t,e,h1,fun H' g=>h _ _ (q H' g)⟩
inductive spPartsAllX (K:PySem.W.Frag) (vs:List V) (H:Hp) (Q:VK) (E9:XK):Prop
  | mk (l:Addr) (ts:List Tr) (ps:List Addr) (_:vs = [.ref l]) (_:SqL K H l (ps.map V.ref)) (_:Paired (fun t p=>IsT H t (.ref p)) ts ps) (_:ts.all shp = true) (_:ts.length≤200)
    (_:∀ (l':Addr) H' (qs:List Addr),Same H H'→H l' = none→H' l' = some (.lst (qs.map V.ref))→Paired (fun t p=>IsT H' t (.ref p)) (ts.flatMap pts) qs→Q (.ref l') H'):spPartsAllX K vs H Q E9
inductive spIsSenX (vs:List V) (H:Hp) (Q:VK) (E9:XK):Prop
  | mk (p:Addr) (t:Tr) (_:vs = [.ref p]) (_:IsT H t (.ref p)) (_:∀ H',Same H H'→Q (.bl (lev 24 0 [t])) H'):spIsSenX vs H Q E9
def mkV:V→Bool
  | .str x=>decide (x∈letts)
  | _=>false
def tuV:V→Bool
  | .ref _=>true
  | _=>false
theorem IsT.mk {H:Hp} {t:Tr} {v:V} (h:IsT H t v):isMk t = mkV v:=by
  cases t with
  | s x=>cases h; rfl
  | e=>obtain ⟨q,e,h⟩:=h; subst e; rfl
  | c a t=>obtain ⟨q,vs,e,h1,h2⟩:=h; subst e; rfl
theorem IsT.tu {H:Hp} {t:Tr} {v:V} (h:IsT H t v):t.tup = tuV v:=by
  cases t with
  | s x=>cases h; rfl
  | e=>obtain ⟨q,e,h⟩:=h; subst e; rfl
  | c a t=>obtain ⟨q,vs,e,h1,h2⟩:=h; subst e; rfl
theorem pd_all {α β:Type} {R:α→β→Prop} {f:α→Bool} {g:β→Bool} (h:∀ a b,R a b→f a = g b):∀ {xs:List α} {ys:List β},Paired R xs ys→xs.all f = ys.all g
  | _,_,.nil=>rfl
  | _,_,.cons r t=>by rw [List.all_cons,List.all_cons,h _ _ r,pd_all h t]
theorem all_bl (f:V→Bool) (xs:List V):(xs.map f).all id = xs.all f:=by
  rw [List.all_map]; rfl
theorem pd_refs {H:Hp}:∀ {ts:List Tr} {vs:List V},Paired (IsT H) ts vs→ts.all Tr.tup = true→∃ ps:List Addr,vs = ps.map V.ref∧Paired (fun t p=>IsT H t (.ref p)) ts ps
  | _,_,.nil,_=>⟨[],rfl,.nil⟩
  | _,_,.cons r t,e=>by
    rw [List.all_cons,Bool.and_eq_true] at e
    obtain ⟨p,e1⟩:=r.tup e.1
    obtain ⟨ps,e2,h⟩:=pd_refs t e.2
    subst e1 e2
    exact ⟨p :: ps,rfl,.cons r h⟩
theorem not_mark (xs:List V):(xs.any fun _=>false) = false:=by
  rw [List.any_eq_false]; exact fun _ _=>Bool.false_ne_true
end Sen
namespace Sen
open PySem L2 Bdd
inductive spOrderR (D:Addr) (K:PySem.W.Frag) (vs:List V) (H:Hp) (Q9:VK) (E:XK):Prop
  | mk (l:Addr) (os:List Str) (_:vs = [.ref l]) (_:SqL K H l (os.map V.str)) (_:os.length≤100) (_:ordB os = false) (_:∀ H',Same H H'→E (.ref D) none H'):spOrderR D K vs H Q9 E
def spOrderE (D:Addr) (K:PySem.W.Frag):Sp:=fun vs H Q E=>spMustOrder K vs H Q E∨spOrderR D K vs H Q E
inductive spSenR (D:Addr) (vs:List V) (H:Hp) (Q9:VK) (E:XK):Prop
  | mk (p:Addr) (t:Tr) (_:vs = [.ref p]) (_:IsT H t (.ref p)) (_:lev 24 0 [t] = false) (_:∀ H',Same H H'→E (.ref D) none H'):spSenR D vs H Q9 E
def spSenE (D:Addr):Sp:=fun vs H Q E=>spMustSen vs H Q E∨spSenR D vs H Q E
inductive spMarksR (D:Addr) (K:PySem.W.Frag) (vs:List V) (H:Hp) (Q9:VK) (E:XK):Prop
  | mk (l p:Addr) (os:List Str) (s:Sn) (_:vs = [.ref l,.ref p]) (_:SqL K H l (os.map V.str)) (_:IsS H s p) (_:s.count≤400) (_:¬ s.inO os) (_:∀ x∈s.all,Rep x) (_:∀ H',Same H H'→E (.ref D) none H'):spMarksR D K vs H Q9 E
def spMarksE (D:Addr) (K:PySem.W.Frag):Sp:=fun vs H Q E=>spMustMarks K vs H Q E∨spMarksR D K vs H Q E
inductive spWorthX (Do Ds Dm Dr:Addr) (K:PySem.W.Frag) (vs:List V) (H:Hp) (Q9:VK) (E:XK):Prop
  | mk (p l r:Addr) (os:List Str) (ns:List Int) (_:vs = [.ref p,.ref l,.ref r]) (_:SqL K H l (os.map V.str)) (_:os.length≤100) (_:SqL K H r (ns.map V.int)) (_:ns.length≤1000)
    (_:(ordB os = false∧∀ H',Same H H'→E (.ref Do) none H') ∨
      (IsOrd os∧∃ t,IsT H t (.ref p)∧lev 24 0 [t] = false∧∀ H',Same H H'→E (.ref Ds) none H') ∨
      (IsOrd os∧∃ s,IsS H s p∧s.inO letts∧s.count≤200∧s.depth≤24∧((¬ s.inO os∧(∀ x∈s.all,Rep x)∧∀ H',Same H H'→E (.ref Dm) none H')∨(s.inO os∧rowB os.length ns = false∧∀ H',Same H H'→E (.ref Dr) none H')))):spWorthX Do Ds Dm Dr K vs H Q9 E
inductive spEnterR (C Ds Dm:Addr) (vs:List V) (H:Hp) (Q9:VK) (E:XK):Prop
  | mk (b p:Addr) (os:List Str) (rs:List Rm) (F:Foot) (_:vs = [.ref b,.ref p]) (_:BookAt C H b os rs F)
    (_:(∃ t,IsT H t (.ref p)∧lev 24 0 [t] = false∧∀ H',Same H H'→E (.ref Ds) none H') ∨
      (∃ s,IsS H s p∧s.inO letts∧s.count≤200∧s.depth≤24∧¬ s.inO os∧(∀ x∈s.all,Rep x)∧∀ H',Same H H'→E (.ref Dm) none H')):spEnterR C Ds Dm vs H Q9 E
inductive spInitR (D:Addr) (K:PySem.W.Frag) (vs:List V) (H:Hp) (Q9:VK) (E:XK):Prop
  | mk (b l:Addr) (os:List Str) (_:vs = [.ref b,.ref l]) (_:SqL K H l (os.map V.str)) (_:os.length≤100) (_:ordB os = false) (_:∀ H',Same H H'→E (.ref D) none H'):spInitR D K vs H Q9 E
end Sen
namespace L2
open PySem PySem.Spec PyProof PyProof.Rows PySem.Builtin PySem.Builtin.Str
section
variable {X:Cx}
def rAddT (K:PySem.W.Frag):R2:=fun x y H Q=>∃ p q xs ys,x = .ref p∧y = .ref q∧SqT K H p xs∧SqT K H q ys∧xs≠[]∧xs.length + ys.length≤sizeLine∧(ys = []→Q (.ref p) H)∧(ys≠[]→∀ l,H l = none→Q (.ref l) (upd H l (.tup (xs ++ ys))))
theorem op_addT {K:PySem.W.Frag} (hK:X.K = K):OpR X (binaryOp .Add) (rAddT K):=by
  subst hK
  intro pins s σ H x y v u Q I rx ry h
  obtain ⟨p,q,xs,ys,rfl,rfl,hp,hq,ne,hz,h1,h2⟩:=h
  cases rx
  cases ry
  obtain ⟨its1,rv1,pl1,hz1⟩:=I.tuple hp
  obtain ⟨its2,rv2,pl2,hz2⟩:=I.tuple hq
  obtain ⟨⟨cls,dd,data,sl⟩,ho,hc,n,hd⟩:=id pl1
  obtain ⟨⟨cls2,dd2,data2,sl2⟩,ho2,hc2,n2,hd2⟩:=id pl2
  simp only at hc hd hc2 hd2
  subst hc hd hc2 hd2
  have l1:=rv1.length
  have l2:=rv2.length
  have e:its1.toArray ++ its2.toArray = (its1 ++ its2).toArray:=by simp
  have n1:its1≠[]:=fun z=>ne (List.length_eq_zero_iff.mp (by rw [l1,z]; rfl))
  by_cases hw:ys = []
  · have w0:its2 = []:=List.length_eq_zero_iff.mp (by rw [← l2,hw]; rfl)
    exact concat_meets ⟨_,ho,rfl⟩ ⟨_,ho2,rfl⟩ noFill_tuple_add seq_tuple_add PySem.F.slot_tuple_add PySem.F.entry_tuple_add (PySem.F.args_tuple_add_2 _ _)
      (tuple_addW1 p q its1.toArray its2.toArray n n2 dd dd2 sl sl2 (by simpa using n1) (by simp [w0])) ⟨ho,ho2,.ref p,H,I,rfl,h1 hw⟩
  · have w0:its2≠[]:=fun z=>hw (List.length_eq_zero_iff.mp (by rw [l2,z]; rfl))
    refine concat_meets ⟨_,ho,rfl⟩ ⟨_,ho2,rfl⟩ noFill_tuple_add seq_tuple_add PySem.F.slot_tuple_add PySem.F.entry_tuple_add (PySem.F.args_tuple_add_2 _ _)
      (tuple_addW2 p q its1.toArray its2.toArray n n2 dd dd2 sl sl2 (by simpa using n1) (by simpa using w0) (by rw [List.size_toArray,List.size_toArray,← l1,← l2]; exact hz)) ⟨ho,ho2,?_⟩
    rw [e]
    refine ⟨.ref s.heap.objs.size,_,I.laid (t':=s.toks) (o:=.tup (xs ++ ys)) (fun b o e=>Heap.get?_push_of_some _ e) (Nat.le_refl _) ?_,rfl,h2 hw _ (I.hok.fresh (Nat.le_refl _))⟩
    exact ⟨by rw [List.length_append]; exact hz,its1 ++ its2,rv1.append rv2,_,Heap.get?_push_size _ rfl,rfl,0,rfl⟩
def jl (sep:Str) (zs:List Str):Nat:=(zs.map fun x=>x.length + sep.length).sum
theorem jl_fold (sep:Str):∀ (zs:List Str) (n:Nat),zs.foldl (fun a x=>a + x.length + sep.length) n = n + jl sep zs
  | [],n=>rfl
  | z :: zs,n=>by
    rw [List.foldl_cons,jl_fold sep zs]
    show _ = n + ((z.length + sep.length) + jl sep zs)
    omega
theorem jl_len (sep:Str):∀ (zs:List Str),(Str.join sep zs).length≤jl sep zs
  | []=>Nat.zero_le _
  | [z]=>by show z.length≤(z.length + sep.length) + 0; omega
  | z :: y :: zs=>by
    have h:=jl_len sep (y :: zs)
    show (z ++ sep ++ Str.join sep (y :: zs)).length≤(z.length + sep.length) + jl sep (y :: zs)
    rw [strLen_append,strLen_append]
    omega
def rJoinS (K:PySem.W.Frag):V→List V→Hp→VK→Prop:=fun x vs H Q=>∃ (sep:Str) (l:Addr) (zs:List Str),x = .str sep∧vs = [.ref l]∧(SqL K H l (zs.map V.str)∨SqT K H l (zs.map V.str))∧jl sep zs≤30000∧Q (.str (Str.join sep zs)) H
theorem join_post {pins:List (Addr × Obj)} {σ:St} {H:Hp} {s:Shared} {Q:VK} (I:Inv X pins σ H s) (sep:Str) (zs:List Str) (ps:List (Str × Tok)) (e:ps.map (·.1) = zs) (hz:jl sep zs≤30000) (q:Q (.str (Str.join sep zs)) H) {R:Value→Shared→Prop} (hR:∀ v s',(∃ x H',Inv X pins σ H' s'∧RelV x v∧Q x H')→R v s'):(joinMade sep ps).post R s:=by
  have hl:=jl_len sep zs
  match ps,e with
  | [],e =>
    subst e
    refine ⟨by rw [show glued sep (([]:List (Str × Tok)).map (·.1)) = Str.join sep [] from PySem.StrLaws.glued_eq_join sep []]; exact Nat.le_trans hl (by rw [sizeLine_eq]; omega),hR _ _ ⟨.str (Str.join sep []),H,I.tok _,⟨_,rfl⟩,q⟩⟩
  | [p],e =>
    subst e
    exact hR _ _ ⟨.str p.1,H,I,⟨p.2,rfl⟩,q⟩
  | p :: p2 :: ps,e =>
    have e2:glued sep ((p :: p2 :: ps).map (·.1)) = Str.join sep zs:=by rw [e]; exact PySem.StrLaws.glued_eq_join sep zs
    have e3:joinMade sep (p :: p2 :: ps) = Made.str (Str.join sep zs):=congrArg Made.str e2
    rw [e3]
    exact ⟨Nat.le_trans hl (by rw [sizeLine_eq]; omega),hR _ _ ⟨.str (Str.join sep zs),H,I.tok _,⟨_,rfl⟩,q⟩⟩
theorem mt_joinS {K:PySem.W.Frag} (hK:X.K = K):MtM X "str.join" (rJoinS K):=by
  subst hK
  intro pins s σ H x vs v us Q I rx rv h
  obtain ⟨sep,l,zs,rfl,rfl,hq,hz,q⟩:=h
  obtain ⟨t,rfl⟩:=rx
  obtain ⟨u,rfl,ru⟩:=rv.one
  cases ru
  have tl:∀ ps:List (Str × Tok),ps.map (·.1) = zs→tooLong ((ps.map (·.1)).toArray.foldl (· + ·.length + sep.length) 0) = false:=fun ps e=>by
    rw [e,List.foldl_toArray,jl_fold]
    unfold tooLong
    rw [sizeLine_eq]
    exact decide_eq_false (by omega)
  rcases hq with hq | hq
  · obtain ⟨its,r',pl,_⟩:=I.list hq
    obtain ⟨ps,rfl,eps⟩:=strs_of r'
    exact call_meets PySem.F.slot_str_join (typeIs_str s sep t) PySem.F.entry_str_join (PySem.F.args_str_join_2 _ _) (meets_str_join_list sep t l ps (tl ps eps)) ⟨pl.isList,join_post I sep zs ps eps hz q fun v s' h=>h⟩
  · obtain ⟨its,r',pl,_⟩:=I.tuple hq
    obtain ⟨ps,rfl,eps⟩:=strs_of r'
    obtain ⟨o,ho,hc,n,hd⟩:=pl
    exact call_meets PySem.F.slot_str_join (typeIs_str s sep t) PySem.F.entry_str_join (PySem.F.args_str_join_2 _ _) (meets_str_join_tuple sep t l ps (tl ps eps)) ⟨⟨o,n,ho,hc,hd⟩,join_post I sep zs ps eps hz q fun v s' h=>h⟩
abbrev TXg:=St→Hp→(Str→Hp→Prop)→Prop
def PXg (X:Cx) (e:Expr) (t:TXg):Prop :=
  ∀ (pins:List (Addr × Obj)) (s:Shared) (σ:St) (H:Hp) (Q:Str→Hp→Prop),Inv X pins σ H s→t σ H Q→wpAny (model X.prog X.w) X.A (eval e X.env) (fun v s1=>∃ y tk H1,v = .str y tk∧y.length≤3000∧Inv X pins σ H1 s1∧Q y H1) X.xe s
abbrev TXs:=Str→St→Hp→(Str→Hp→Prop)→Prop
def PXs (X:Cx) (es:List Expr) (t:TXs):Prop :=
  ∀ (acc:Str) (n:Nat) (pins:List (Addr × Obj)) (s:Shared) (σ:St) (H:Hp) (Q:Str→Hp→Prop),acc.length≤3000 * n→n + es.length≤100→Inv X pins σ H s→t acc σ H Q →
    Joins (model X.prog X.w) X.A X.xe (evalEach es X.env) acc (fun out s1=>out.length≤sizeLine∧∃ H1,Inv X pins σ H1 s1∧Q out H1) s
variable {e v₁ v₂:Expr} {es rest:List Expr} {t:TXg} {u:TXs} {te:TE} {pos:Pos}
def xgTxt3 (x:Str):TXg:=fun _ H Q=>Q x H
theorem px_str3 {x:Str} {j pos} (hx:x.length≤3000:=by decide):PXg X (.Constant (.str x) j pos) (xgTxt3 x):=fun _ _ _ H _ I h=>Calls.Constant_str ⟨x,_,H,rfl,hx,I.tok _,h⟩
def xgStr3 (te:TE):TXg:=fun σ H Q=>te σ H fun v H1=>∃ x:Str,v = .str x∧x.length≤3000∧Q x H1
theorem px_text3 (he:PE X e te):PXg X (.FormattedValue e (-1) none pos) (xgStr3 te):=by
  intro pins s σ H Q I h
  refine wpAny_FormattedValue_plain (thn (he pins s σ H _ I h) fun v s1 ⟨x,H1,I1,r,y,ex,hy,q⟩=>?_)
  subst ex
  obtain ⟨tk,rfl⟩:=(show ∃ t,v = Value.str y t from r)
  exact wpAny_formatField_str ⟨_,_,H1,rfl,hy,I1,q⟩ ⟨_,_,H1,rfl,hy,I1.tok _,q⟩ (by rw [sizeLine_eq]; omega)
def xgNil3:TXs:=fun acc _ H Q=>Q acc H
def xgCons3 (t:TXg) (u:TXs):TXs:=fun acc σ H Q=>t σ H fun x H1=>u (acc ++ x) σ H1 Q
theorem pxs_nil3:PXs X [] xgNil3:=fun acc n pins s σ H Q ha hn I h=>⟨by rw [sizeLine_eq]; have:n≤100:=hn; omega,H,I,h⟩
theorem pxs_cons3 (h1:PXg X e t) (h2:PXs X es u):PXs X (e :: es) (xgCons3 t u):=by
  intro acc n pins s σ H Q ha hn I h
  show wpAny _ _ (eval e X.env) _ _ s
  refine thn (h1 pins s σ H _ I h) fun v s1 ⟨y,tk,H1,ev,hy,I1,q⟩=>⟨y,tk,ev,?_,?_⟩
  · rw [strLen_append,sizeLine_eq]
    have:n + (es.length + 1)≤100:=hn
    omega
  · refine h2 (acc ++ y) (n + 1) pins s1 σ H1 Q ?_ ?_ I1 q
    · rw [strLen_append]; omega
    · have:n + (es.length + 1)≤100:=hn
      omega
def tFstG (u:TXs):TE:=fun σ H Q=>u Str.empty σ H fun x H1=>Q (.str x) H1
theorem pe_fstG (h:PXs X (v₁ :: v₂ :: rest) u) (hn:rest.length≤90:=by decide):PE X (.JoinedStr (v₁ :: v₂ :: rest) pos) (tFstG u):=by
  intro pins s σ H Q I hq
  refine wpAny_JoinedStr ?_
  have:=h Str.empty 0 pins s σ H (fun x H1=>Q (.str x) H1) (by decide) (by show 0 + (rest.length + 1 + 1)≤100; omega) I hq
  refine pe_fst.joins_mono _ _ this fun out s1 ⟨hz,H1,I1,q⟩=>⟨hz,.str out,H1,I1.tok _,⟨_,rfl⟩,q⟩
end
end L2
namespace Sen
open PySem L2 Bdd
def hdT (w:Str) (ls ps:List Str):Str:=Str.empty ++ Str.join " " (w :: ls) ++ Str.ofString "(" ++ Str.join ", " ps ++ Str.ofString ")"
def wrt:Sn→Str
  | .c0 y=>Sn.word (.c0 y)
  | .mk x=>x
  | .nt s=>hdT (Sn.word (.nt s)) [] [wrt s]
  | .b2 o s t=>hdT (Sn.word (.b2 o s t)) [] [wrt s,wrt t]
  | .q1 o x s=>hdT (Sn.word (.q1 o x s)) [x] [wrt s]
theorem wrt_gen {s:Sn} (h:s.parts≠[]):wrt s = hdT s.word s.letters (s.parts.map wrt):=by
  cases s with
  | c0 y=>exact absurd rfl h
  | mk x=>exact absurd rfl h
  | nt s=>rfl
  | b2 o s t=>rfl
  | q1 o x s=>rfl
theorem word_len (s:Sn):s.word.length≤6:=by
  cases s with
  | c0 y=>cases y <;> decide +kernel
  | mk x=>show (Str.ofString "mark").length≤6; decide +kernel
  | nt s=>show (Str.ofString "not").length≤6; decide +kernel
  | b2 o s t =>
    show (w2 o).length≤6
    revert o
    decide +kernel
  | q1 o x s =>
    cases o
    · show (Str.ofString "each").length≤6; decide +kernel
    · show (Str.ofString "some").length≤6; decide +kernel
theorem lett_len {x:Str} (h:x∈letts):x.length = 1:=by
  have:∀ x∈letts,x.length = 1:=by decide +kernel
  exact this x h
theorem word_mark {s:Sn} (h:∀ x,s≠.mk x):s.word ≠ "mark" := by
  cases s with
  | c0 y=>cases y <;> decide +kernel
  | mk x=>exact absurd rfl (h x)
  | nt s=>show Str.ofString "not" ≠ "mark"; decide +kernel
  | b2 o s t =>
    clear h
    show w2 o ≠ "mark"
    revert o
    decide +kernel
  | q1 o x s =>
    cases o
    · show Str.ofString "each" ≠ "mark"; decide +kernel
    · show Str.ofString "some" ≠ "mark"; decide +kernel
theorem hd_len (s:Sn) (hl:∀ x∈s.letters,x∈letts):(Str.join " " (s.word :: s.letters)).length≤8∧jl " " (s.word :: s.letters)≤20:=by
  have h6:=word_len s
  have h1:(Str.ofString " ").length = 1:=by decide +kernel
  have ll:=Sn.letters_le s
  cases e:s.letters with
  | nil =>
    refine ⟨by show s.word.length≤8; omega,?_⟩
    show (s.word.length + (Str.ofString " ").length) + 0≤20
    omega
  | cons x r =>
    rw [e,List.length_cons] at ll
    have er:r = []:=List.length_eq_zero_iff.mp (by omega)
    subst er
    have hx:=lett_len (hl x (by rw [e]; exact List.mem_singleton.mpr rfl))
    refine ⟨?_,?_⟩
    · show (s.word ++ Str.ofString " " ++ x).length≤8
      rw [Str.length_append,Str.length_append]
      omega
    · show (s.word.length + (Str.ofString " ").length) + ((x.length + (Str.ofString " ").length) + 0)≤20
      omega
theorem hdT_len (w:Str) (ls ps:List Str):(hdT w ls ps).length = (Str.join " " (w :: ls)).length + (Str.join ", " ps).length + 2:=by
  have e1:(Str.ofString "(").length = 1:=by decide +kernel
  have e2:(Str.ofString ")").length = 1:=by decide +kernel
  have e3:(Str.empty).length = 0:=rfl
  unfold hdT
  rw [Str.length_append,Str.length_append,Str.length_append,Str.length_append]
  omega
theorem wrt_len:∀ {s:Sn},s.inO letts→(wrt s).length≤12 * s.count
  | .c0 y,_=>by have:=word_len (.c0 y); show (Sn.word (.c0 y)).length≤12 * 1; omega
  | .mk x,h=>by have:=lett_len (show x∈letts from h); show x.length≤12 * 1; omega
  | .nt s,h=>by
    have a:=wrt_len (s:=s) h
    have b:=(hd_len (.nt s) (fun _ h=>absurd h (by simp [Sn.letters]))).1
    show (hdT _ _ _).length≤12 * (1 + s.count)
    rw [hdT_len]
    have c:(Str.join ", " [wrt s]).length = (wrt s).length:=rfl
    have b':(Str.join " " [Sn.word (.nt s)]).length≤8:=b
    omega
  | .b2 o s t,h=>by
    have a:=wrt_len (s:=s) h.1
    have a2:=wrt_len (s:=t) h.2
    have b:=word_len (.b2 o s t)
    show (hdT _ _ _).length≤12 * (1 + (s.count + t.count))
    rw [hdT_len]
    have c:(Str.join ", " [wrt s,wrt t]).length = (wrt s).length + 2 + (wrt t).length:=by
      show (wrt s ++ Str.ofString ", " ++ wrt t).length = _
      rw [Str.length_append,Str.length_append]
      have:(Str.ofString ", ").length = 2:=by decide +kernel
      omega
    have b':(Str.join " " [Sn.word (.b2 o s t)]).length≤6:=b
    omega
  | .q1 o x s,h=>by
    have a:=wrt_len (s:=s) h.2
    have b:=(hd_len (.q1 o x s) (fun y hy=>by rw [List.mem_singleton.mp hy]; exact h.1)).1
    show (hdT _ _ _).length≤12 * (1 + s.count)
    rw [hdT_len]
    have c:(Str.join ", " [wrt s]).length = (wrt s).length:=rfl
    have b':(Str.join " " [Sn.word (.q1 o x s),x]).length≤8:=b
    omega
theorem jl_parts:∀ {ss:List Sn},(∀ s∈ss,s.inO letts)→jl ", " (ss.map wrt)≤14 * cnt ss
  | [],_=>Nat.zero_le _
  | s :: ss,h=>by
    have a:=wrt_len (h s List.mem_cons_self)
    have b:=jl_parts (ss:=ss) fun t ht=>h t (List.mem_cons_of_mem _ ht)
    have e:(Str.ofString ", ").length = 2:=by decide +kernel
    have c:=Sn.count_parts s
    show ((wrt s).length + (Str.ofString ", ").length) + jl ", " (ss.map wrt)≤14 * (s.count + cnt ss)
    omega
theorem part_count {s t:Sn} (h:t∈s.parts):t.count≤s.count:=by
  cases s with
  | c0 y=>cases h
  | mk x=>cases h
  | nt s=>rw [List.mem_singleton.mp h]; show s.count≤1 + s.count; omega
  | b2 o a b =>
    show t.count≤1 + (a.count + b.count)
    rcases List.mem_cons.mp h with h | h
    · rw [h]; omega
    · rw [List.mem_singleton.mp h]; omega
  | q1 o x s=>rw [List.mem_singleton.mp h]; show s.count≤1 + s.count; omega
inductive spWritten (n:Nat) (vs:List V) (H:Hp) (Q:VK) (E9:XK):Prop
  | mk (p:Addr) (s:Sn) (_:vs = [.ref p]) (_:IsS H s p) (_:s.inO letts) (_:s.count≤200) (_:s.depth≤n) (_:∀ H',Same H H'→Q (.str (wrt s)) H'):spWritten n vs H Q E9
theorem mono_written (n:Nat):SpMono (spWritten n):=fun vs H Q Q' E h ⟨p,s,e,h1,h2,h3,h4,q⟩=>⟨p,s,e,h1,h2,h3,h4,fun H' g=>h _ _ (q H' g)⟩
inductive spWordsN (vs:List V) (H:Hp) (Q:VK) (E9:XK):Prop
  | mk (p:Addr) (s:Sn) (_:vs = [.ref p]) (_:IsS H s p) (_:s.inO letts) (_:s.count≤200) (_:s.depth≤24) (_:∀ H',Same H H'→Q (.int (s.count:Nat)) H'):spWordsN vs H Q E9
inductive spMarksOf (vs:List V) (H:Hp) (Q:VK) (E9:XK):Prop
  | mk (p:Addr) (s:Sn) (_:vs = [.ref p]) (_:IsS H s p) (_:s.inO letts) (_:s.count≤200) (_:s.depth≤24) (_:∀ (l:Addr) H' (ms:List Str),Same H H'→H l = none→H' l = some (.lst (ms.map V.str))→ms.Nodup→(∀ x,x∈ms↔x∈s.all)→PyProof.Rows.sortedS ms = true→Q (.ref l) H'):spMarksOf vs H Q E9
theorem dd_few {ts:List Str} (h:∀ x∈ts,x∈letts):(dd ts).length < 64 :=
  Nat.lt_of_le_of_lt (nodup_le (ys:=letts) (dd_nd ts) fun x hx=>h x (dd_mem.mp hx)) (by decide)
end Sen
namespace L2
open PySem PySem.Spec PyProof.Rows
inductive Dt
  | s (x:Str)
  | n (i:Int)
  | q (l:Bool) (d:Dt)
  | e
  | c (h t:Dt)
def sqO (l:Bool) (xs:List V):HO:=bif l then .lst xs else .tup xs
def atD (H:Hp):Dt→(V→Prop) × (List V→Prop)
  | .s x=>(fun v=>v = .str x,fun _=>False)
  | .n i=>(fun v=>v = .int i,fun _=>False)
  | .q l d=>(fun v=>∃ p vs,v = .ref p∧H p = some (sqO l vs)∧(atD H d).2 vs,fun _=>False)
  | .e=>(fun _=>False,fun vs=>vs = [])
  | .c h t=>(fun _=>False,fun vs=>∃ x xs,vs = x :: xs∧(atD H h).1 x∧(atD H t).2 xs)
def IsW (H:Hp) (d:Dt) (v:V):Prop:=(atD H d).1 v
theorem atD_mono {H H':Hp} (g:Same H H'):∀ d,(∀ v,(atD H d).1 v→(atD H' d).1 v)∧(∀ vs,(atD H d).2 vs→(atD H' d).2 vs)
  | .s x=>⟨fun _ h=>h,fun _ h=>h⟩
  | .n x=>⟨fun _ h=>h,fun _ h=>h⟩
  | .q l d=>⟨fun _ ⟨p,vs,e,h1,h2⟩=>⟨p,vs,e,g _ _ h1,(atD_mono g d).2 _ h2⟩,fun _ h=>h⟩
  | .e=>⟨fun _ h=>h,fun _ h=>h⟩
  | .c h t=>⟨fun _ h=>h,fun _ ⟨x,xs,e2,h2,h3⟩=>⟨x,xs,e2,(atD_mono g h).1 _ h2,(atD_mono g t).2 _ h3⟩⟩
theorem IsW.mono {H H':Hp} {d:Dt} {v:V} (h:IsW H d v) (g:Same H H'):IsW H' d v:=(atD_mono g d).1 v h
def Dt.len:Dt→Nat
  | .c _ t=>t.len + 1
  | _=>0
theorem atD_len {H:Hp}:∀ {d:Dt} {vs:List V},(atD H d).2 vs→vs.length = d.len
  | .s _,_,h=>h.elim
  | .n _,_,h=>h.elim
  | .q _ _,_,h=>h.elim
  | .e,_,h=>by cases h; rfl
  | .c a t,_,⟨x,xs,e,_,h2⟩=>by subst e; show xs.length + 1 = t.len + 1; rw [atD_len h2]
def Dt.items:Dt→List Dt
  | .c h t=>h :: t.items
  | _=>[]
theorem atD_items {H:Hp}:∀ {d:Dt} {vs:List V},(atD H d).2 vs→Paired (IsW H) d.items vs
  | .s _,_,h=>h.elim
  | .n _,_,h=>h.elim
  | .q _ _,_,h=>h.elim
  | .e,_,h=>by cases h; exact .nil
  | .c a t,_,⟨x,xs,e,h1,h2⟩=>by subst e; exact .cons h1 (atD_items h2)
def litL (f:Expr→Option Dt):List Expr→Option Dt
  | []=>some .e
  | e :: r=>match f e,litL f r with
    | some a,some b=>some (.c a b)
    | _,_=>none
def litE (x:Str) (g:Option Dt):Nat→Expr→Option Dt
  | 0,_=>none
  | _ + 1,.Constant (.str y) _ _=>some (.s y)
  | _ + 1,.Constant (.int i) _ _=>some (.n i)
  | _ + 1,.Name y _=>if y = x then g else none
  | n + 1,.UnaryOp .USub a _=>match litE x g n a with
    | some (.n i)=>some (.n (-i))
    | _=>none
  | n + 1,.BinOp a .Add b _=>match litE x g n a,litE x g n b with
    | some (.n i),some (.n j)=>some (.n (i + j))
    | _,_=>none
  | n + 1,.BinOp a .Sub b _=>match litE x g n a,litE x g n b with
    | some (.n i),some (.n j)=>some (.n (i - j))
    | _,_=>none
  | n + 1,.Tuple es _ _=>if es.length≤100 then (litL (litE x g n) es).map (.q false) else none
  | n + 1,.List es _=>if es.length≤100 then (litL (litE x g n) es).map (.q true) else none
  | _ + 1,_=>none
def Hol (i:Nat) (g:Option Dt) (σ:St) (H:Hp):Prop:=∀ d,g = some d→∃ v,σ[i]? = some (some v)∧IsW H d v
theorem Hol.mono {i:Nat} {g:Option Dt} {σ:St} {H H':Hp} (h:Hol i g σ H) (s:Same H H'):Hol i g σ H':=fun d e=>by
  obtain ⟨v,h1,h2⟩:=h d e
  exact ⟨v,h1,h2.mono s⟩
def tLit (i:Nat) (g:Option Dt) (d:Dt):TE:=fun σ H Q=>Hol i g σ H∧∀ v H',Same H H'→IsW H' d v→Q v H'
def tLits (i:Nat) (g:Option Dt) (d:Dt):TA:=fun σ H Q=>Hol i g σ H∧∀ vs H',Same H H'→(atD H' d).2 vs→Q vs H'
section
variable {X:Cx} {i:Nat} {x:Str} {g:Option Dt}
theorem lit_star {n:Nat} {e:Expr} {d:Dt} (h:litE x g n e = some d) (es:List Expr) (env:Env):starEach (e :: es) env = (false,eval e env) :: starEach es env:=by
  cases e
  case Starred=>cases n <;> cases h
  all_goals rfl
theorem litL_len {f:Expr→Option Dt}:∀ {es:List Expr} {d:Dt},litL f es = some d→d.len = es.length
  | [],d,h=>by cases h; rfl
  | e :: r,d,h=>by
    unfold litL at h
    split at h
    · rename_i a b ha hb
      cases h
      show b.len + 1 = r.length + 1
      rw [litL_len hb]
    · cases h
theorem pa_lit {f:Expr→Option Dt} (hf:∀ e d,f e = some d→PE X e (tLit i g d)) (hs:∀ e d,f e = some d→∀ es env,starEach (e :: es) env = (false,eval e env) :: starEach es env):∀ {es:List Expr} {d:Dt},litL f es = some d→PA X es (tLits i g d)
  | [],d,h=>by
    cases h
    intro pos pins s σ H Q I q
    exact pa_nil pos pins s σ H Q I (q.2 [] H (Same.refl _) rfl)
  | e :: r,d,h=>by
    unfold litL at h
    split at h
    · rename_i a b ha hb
      cases h
      intro pos pins s σ H Q I q
      refine pa_cons (hf e a ha) (pa_lit hf hs hb) (hs e a ha r X.env) pos pins s σ H Q I ?_
      exact ⟨q.1,fun v H1 g1 hv=>⟨q.1.mono g1,fun vs H2 g2 hvs=>q.2 (v :: vs) H2 (g1.trans g2) ⟨v,vs,rfl,IsW.mono hv g2,hvs⟩⟩⟩
    · cases h
theorem pe_lit (hx:g≠none→∀ pos,PE X (.Name x pos) (tVar i)):∀ (n:Nat) (e:Expr) (d:Dt),litE x g n e = some d→PE X e (tLit i g d)
  | 0,e,d,h=>by cases h
  | n + 1,e,d,h=>by
    have ih:=pe_lit hx n
    have len_ok:∀ {H:Hp} {b:Dt} {es:List Expr} {vs:List V},es.length≤100→litL (litE x g n) es = some b→(atD H b).2 vs→vs.length≤sizeLine:=fun {H b es vs} h1 h2 h=>by
      rw [atD_len h,litL_len h2]
      exact Nat.le_trans h1 (by decide)
    unfold litE at h
    split at h
    · cases h
    · cases h
      exact fun pins s σ H Q I q=>pe_str pins s σ H Q I (q.2 _ H (Same.refl _) rfl)
    · cases h
      exact fun pins s σ H Q I q=>pe_int pins s σ H Q I (q.2 _ H (Same.refl _) rfl)
    · rename_i y p e2
      split at h
      · rename_i e3
        subst e3
        intro pins s σ H Q I q
        obtain ⟨v,h1,h2⟩:=q.1 d h
        exact hx (by rw [h]; exact fun z=>nomatch z) _ pins s σ H Q I ⟨v,h1,q.2 v H (Same.refl _) h2⟩
      · cases h
    · rename_i n' e2 a p e3
      cases e3
      split at h
      · rename_i j ha
        cases h
        intro pins s σ H Q I q
        refine pe_un un_neg (ih _ _ ha) pins s σ H Q I ⟨q.1,fun v H1 g1 hv=>?_⟩
        exact ⟨j,hv,q.2 _ H1 g1 rfl⟩
      · cases h
    · rename_i n' e2 a b p e3
      cases e3
      split at h
      · rename_i j l ha hb
        cases h
        intro pins s σ H Q I q
        refine pe_op op_add (ih _ _ ha) (ih _ _ hb) pins s σ H Q I ⟨q.1,fun v H1 g1 hv=>⟨q.1.mono g1,fun u H2 g2 hu=>?_⟩⟩
        exact ⟨j,l,hv,hu,q.2 _ H2 (g1.trans g2) rfl⟩
      · cases h
    · rename_i n' e2 a b p e3
      cases e3
      split at h
      · rename_i j l ha hb
        cases h
        intro pins s σ H Q I q
        refine pe_op op_sub (ih _ _ ha) (ih _ _ hb) pins s σ H Q I ⟨q.1,fun v H1 g1 hv=>⟨q.1.mono g1,fun u H2 g2 hu=>?_⟩⟩
        exact ⟨j,l,hv,hu,q.2 _ H2 (g1.trans g2) rfl⟩
      · cases h
    · rename_i n' e2 es k p e3
      cases e3
      split at h
      · rename_i hz
        cases hl:litL (litE x g n) es with
        | none=>rw [hl] at h; cases h
        | some b =>
        rw [hl] at h
        cases h
        intro pins s σ H Q I q
        refine pe_tup (pa_lit ih (fun e d h=>lit_star h) hl) pins s σ H Q I ⟨q.1,fun vs H1 g1 hv=>⟨len_ok hz hl hv,fun r hr=>?_⟩⟩
        have g2:=Same.new hr (.tup vs)
        exact q.2 _ _ (g1.trans g2) ⟨r,vs,rfl,upd_same,(atD_mono g2 b).2 _ hv⟩
      · cases h
    · rename_i n' e2 es p e3
      cases e3
      split at h
      · rename_i hz
        cases hl:litL (litE x g n) es with
        | none=>rw [hl] at h; cases h
        | some b =>
        rw [hl] at h
        cases h
        intro pins s σ H Q I q
        refine pe_lst (pa_lit ih (fun e d h=>lit_star h) hl) pins s σ H Q I ⟨q.1,fun vs H1 g1 hv=>⟨len_ok hz hl hv,fun r hr=>?_⟩⟩
        have g2:=Same.new hr (.lst vs)
        exact q.2 _ _ (g1.trans g2) ⟨r,vs,rfl,upd_same,(atD_mono g2 b).2 _ hv⟩
      · cases h
    · cases h
theorem pe_lit0 {e:Expr} {d:Dt} (n:Nat) (h:litE "" none n e = some d):PE X e (tLit 0 none d):=pe_lit (fun z=>absurd rfl z) n e d h
theorem pe_lit1 {e:Expr} {d g:Dt} (n:Nat) (i:Nat) (x:Str) (h:litE x (some g) n e = some d) (hN:X.N[i]? = some x:=by rfl) (hv:Vis X.env.scope x:=by first | exact Or.inl rfl | exact Or.inr (Or.inl rfl) | exact Or.inr (Or.inr rfl)) (hb:(x == ("__debug__" : Str)) = false:=by decide)
    (hcd:(x == ("__classdict__" : Str)) = false:=by decide):PE X e (tLit i (some g) d):=pe_lit (fun _ pos=>pv i hN hv hb hcd) n e d h
end
theorem hol0 {i:Nat} {σ:St} {H:Hp}:Hol i none σ H:=fun _ h=>nomatch h
theorem hol1 {i:Nat} {g:Dt} {σ:St} {H:Hp} {v:V} (h:σ[i]? = some (some v)) (k:IsW H g v):Hol i (some g) σ H:=fun _ e=>by cases e; exact ⟨v,h,k⟩
def lsq (ds:List Dt):Dt:=.q true (ds.foldr .c .e)
def tpl (ds:List Dt):Dt:=.q false (ds.foldr .c .e)
theorem items_fold:∀ ds:List Dt,(ds.foldr Dt.c Dt.e).items = ds
  | []=>rfl
  | d :: r=>by show d :: (r.foldr Dt.c Dt.e).items = _; rw [items_fold r]
theorem IsW.lsq {H:Hp} {ds:List Dt} {v:V} (h:IsW H (lsq ds) v):∃ p vs,v = .ref p∧H p = some (.lst vs)∧Paired (IsW H) ds vs:=by
  obtain ⟨p,vs,e,h1,h2⟩:=h
  have:=atD_items h2
  rw [items_fold] at this
  exact ⟨p,vs,e,h1,this⟩
theorem pd_ints {H:Hp}:∀ {ns:List Int} {vs:List V},Paired (IsW H) (ns.map Dt.n) vs→vs = ns.map V.int
  | [],_,.nil=>rfl
  | n :: r,_,.cons h t=>by rw [pd_ints t,(h:_ = _)]; rfl
theorem pd_strs {H:Hp}:∀ {ns:List Str} {vs:List V},Paired (IsW H) (ns.map Dt.s) vs→vs = ns.map V.str
  | [],_,.nil=>rfl
  | n :: r,_,.cons h t=>by rw [pd_strs t,(h:_ = _)]; rfl
end L2
namespace Sen
open PySem L2
def okT:Dt→Bool
  | .s _=>true
  | .n _=>false
  | .q l d=>!l && okT d
  | .e=>true
  | .c h t=>okT h && okT t
def toT:Dt→Tr
  | .s x=>.s x
  | .n _=>.e
  | .q _ d=>toT d
  | .e=>.e
  | .c h t=>.c (toT h) (toT t)
theorem atT_of {H:Hp}:∀ {d:Dt},okT d = true→(∀ v,(atD H d).1 v→(atT H (toT d)).1 v)∧(∀ vs,(atD H d).2 vs→(atT H (toT d)).2 vs)
  | .s x,_=>⟨fun _ h=>h,fun _ h=>h⟩
  | .n x,e=>nomatch e
  | .q true d,e=>nomatch e
  | .q false d,e=>by
    have ih:=atT_of (H:=H) (d:=d) e
    refine ⟨fun v ⟨p,vs,e1,h1,h2⟩=>?_,fun _ h=>h.elim⟩
    cases d with
    | s x=>exact h2.elim
    | n x=>exact h2.elim
    | q l d=>exact h2.elim
    | e=>cases h2; exact ⟨p,e1,h1⟩
    | c a b=>exact ⟨p,vs,e1,h1,ih.2 _ h2⟩
  | .e,_=>⟨fun _ h=>h.elim,fun _ h=>h⟩
  | .c a b,e=>by
    have e:(okT a && okT b) = true:=e
    rw [Bool.and_eq_true] at e
    exact ⟨fun _ h=>h.elim,fun _ ⟨x,xs,e2,h2,h3⟩=>⟨x,xs,e2,(atT_of e.1).1 _ h2,(atT_of e.2).2 _ h3⟩⟩
theorem IsW.tree {H:Hp} {d:Dt} {v:V} (h:IsW H d v) (e:okT d = true):IsT H (toT d) v:=(atT_of e).1 v h
def trS:Sn→Tr
  | .c0 y=>.c (.s (Sn.word (.c0 y))) .e
  | .mk x=>.c (.s "mark") (.c (.s x) .e)
  | .nt s=>.c (.s "not") (.c (trS s) .e)
  | .b2 o s t=>.c (.s (w2 o)) (.c (trS s) (.c (trS t) .e))
  | .q1 o x s=>.c (.s (if o then "some" else "each")) (.c (.s x) (.c (trS s) .e))
theorem trS_tup (s:Sn):(trS s).tup = true:=by cases s <;> rfl
theorem isS_of {H:Hp}:∀ {s:Sn} {p:Addr},IsT H (trS s) (.ref p)→IsS H s p
  | .c0 y,p,⟨q,vs,e,h1,x,xs,e1,h2,h3⟩=>by
    cases e; cases h2; cases h3; subst e1
    exact h1
  | .mk x,p,⟨q,vs,e,h1,_,xs,e1,h2,_,ys,e2,h3,h4⟩=>by
    cases e; cases h2; cases h3; cases h4; subst e2; subst e1
    exact h1
  | .nt s,p,⟨q,vs,e,h1,_,xs,e1,h2,y,ys,e2,h3,h4⟩=>by
    cases e; cases h2; cases h4; subst e2; subst e1
    obtain ⟨r,rfl⟩:=IsT.tup h3 (trS_tup s)
    exact ⟨r,h1,isS_of h3⟩
  | .b2 o s t,p,⟨q,vs,e,h1,_,xs,e1,h2,y,ys,e2,h3,z,zs,e3,h4,h5⟩=>by
    cases e; cases h2; cases h5; subst e3; subst e2; subst e1
    obtain ⟨r,rfl⟩:=IsT.tup h3 (trS_tup s)
    obtain ⟨r2,rfl⟩:=IsT.tup h4 (trS_tup t)
    exact ⟨r,r2,h1,isS_of h3,isS_of h4⟩
  | .q1 o x s,p,⟨q,vs,e,h1,_,xs,e1,h2,y,ys,e2,h3,z,zs,e3,h4,h5⟩=>by
    cases e; cases h2; cases h3; cases h5; subst e3; subst e2; subst e1
    obtain ⟨r,rfl⟩:=IsT.tup h4 (trS_tup s)
    exact ⟨r,h1,isS_of h4⟩
end Sen
namespace Sen
open PySem L2 Bdd
def badO:List (List Str):=[[],["a", "a"],["i"],["a", "b", "ab"],["b", ""],["A"],["a", "b", "c", "b"]]
def goodO:List (List Str):=[["a", "b", "c"],["c", "a", "b"]]
theorem badO_no:∀ os∈badO,ordB os = false∧os.length≤100:=by decide +kernel
theorem goodO_ok:∀ os∈goodO,IsOrd os∧os.length = 3∧os.length≤100:=by
  intro os h
  rcases List.mem_cons.mp h with rfl | h
  · exact ⟨⟨by decide +kernel,by decide +kernel,by decide⟩,rfl,by decide⟩
  · rw [List.mem_singleton.mp h]
    exact ⟨⟨by decide +kernel,by decide +kernel,by decide⟩,rfl,by decide⟩
def ordsD (os:List (List Str)):Dt:=lsq (os.map fun o=>lsq (o.map .s))
inductive spOrderBy (vs:List V) (H:Hp) (Q:VK) (E9:XK):Prop
  | mk (c:Int) (_:vs = [.int c]) (_:∀ (l:Addr) H' (os:List Str),Same H H'→H' l = some (.lst (os.map V.str))→os∈(if c % 3 = 1 then badO else goodO)→Q (.ref l) H'):spOrderBy vs H Q E9
def gS:Sn:=.b2 0 (.mk "a") (.nt (.mk "b"))
def gdD:Dt:=tpl [.s "and", tpl [.s "mark", .s "a"],tpl [.s "not", tpl [.s "mark", .s "b"]]]
def odd1:List Dt:=[tpl [],tpl [.s "maybe"],tpl [.s "mark", .s "i"],tpl [.s "mark"],tpl [.s "not"],tpl [.s "not", gdD,gdD],tpl [.s "and", gdD],tpl [.s "yes", gdD]]
def odd2:List Dt:=[tpl [.s "some", gdD],tpl [.s "some", .s "x", gdD],tpl [.s "each", .s "a"],tpl [.s "if", .s "a", .s "b"],tpl [.s "or", gdD,tpl [.s "mark", .s "ab"]]]
def forD:List Dt:=[tpl [.s "mark", .s "h"],tpl [.s "some", .s "h", gdD],tpl [.s "each", .s "d", tpl [.s "yes"]],tpl [.s "if", gdD,tpl [.s "not", tpl [.s "mark", .s "g"]]]]
def forS:List Sn:=[.mk "h", .q1 true "h" gS,.q1 false "d" (.c0 true),.b2 3 gS (.nt (.mk "g"))]
theorem gd_tree:okT gdD = true∧toT gdD = trS gS:=⟨by decide +kernel,rfl⟩
theorem odd_bad:∀ d∈odd1 ++ odd2,okT d = true∧lev 24 0 [toT d] = false:=by decide +kernel
theorem for_ok:∀ d∈forD,okT d = true:=by decide +kernel
theorem for_tree:forD.map toT = forS.map trS:=rfl
def ntT:Nat→Tr
  | 0=>.c (.s "mark") (.c (.s "a") .e)
  | n + 1=>.c (.s "not") (.c (ntT n) .e)
theorem nt_deep:lev 24 0 [ntT 24] = false:=by decide +kernel
def SenK (H:Hp) (p:Addr) (ks:Nat):Prop :=
  (ks = 0∧IsS H gS p)∨(ks = 1∧∃ t,IsT H t (.ref p)∧lev 24 0 [t] = false)∨(ks = 2∧∃ s∈forS,IsS H s p)
theorem SenK.mono {H H':Hp} {p:Addr} {ks:Nat} (h:SenK H p ks) (g:Same H H'):SenK H' p ks:=by
  rcases h with ⟨e,h⟩ | ⟨e,t,h,z⟩ | ⟨e,s,m,h⟩
  · exact .inl ⟨e,h.mono (Tups.of g)⟩
  · exact .inr (.inl ⟨e,t,h.mono (Tups.of g),z⟩)
  · exact .inr (.inr ⟨e,s,m,h.mono (Tups.of g)⟩)
def kindS (c:Int):Nat:=if c % 4 = 1 then 1 else if c % 4 = 2 then 2 else if c % 4 = 3∧c / 4 % 4 = 1 then 1 else 0
inductive spSenBy (vs:List V) (H:Hp) (Q:VK) (E9:XK):Prop
  | mk (c:Int) (_:vs = [.int c]) (_:∀ (p:Addr) H',Same H H'→SenK H' p (kindS c)→Q (.ref p) H'):spSenBy vs H Q E9
theorem g_ok (os:List Str) (h:os∈([["a", "b", "c"],["c", "a", "b"],["b", "c", "a"]]:List (List Str))):gS.inO os:=by
  rcases List.mem_cons.mp h with rfl | h
  · exact ⟨(by decide +kernel:("a" : Str)∈(["a", "b", "c"]:List Str)),(by decide +kernel:("b" : Str)∈(["a", "b", "c"]:List Str))⟩
  rcases List.mem_cons.mp h with rfl | h
  · exact ⟨(by decide +kernel:("a" : Str)∈(["c", "a", "b"]:List Str)),(by decide +kernel:("b" : Str)∈(["c", "a", "b"]:List Str))⟩
  · rw [List.mem_singleton.mp h]
    exact ⟨(by decide +kernel:("a" : Str)∈(["b", "c", "a"]:List Str)),(by decide +kernel:("b" : Str)∈(["b", "c", "a"]:List Str))⟩
theorem g_lett:gS.inO letts:=⟨(by decide +kernel:("a" : Str)∈letts),(by decide +kernel:("b" : Str)∈letts)⟩
theorem ml {x:Str} (h:decide (x∈letts) = true):x∈letts:=of_decide_eq_true h
theorem for_lett:∀ s∈forS,s.inO letts∧s.count≤200∧s.depth≤24:=by
  intro s h
  simp only [forS,List.mem_cons,List.not_mem_nil,or_false] at h
  rcases h with rfl | rfl | rfl | rfl
  · exact ⟨ml (x := "h") (by decide +kernel),by decide,by decide⟩
  · exact ⟨⟨ml (x := "h") (by decide +kernel),g_lett⟩,by decide,by decide⟩
  · exact ⟨⟨ml (x := "d") (by decide +kernel),trivial⟩,by decide,by decide⟩
  · exact ⟨⟨g_lett,ml (x := "g") (by decide +kernel)⟩,by decide,by decide⟩
theorem lett_rep:∀ x∈letts,Rep x:=by decide +kernel
theorem for_rep (s:Sn) (h:s∈forS):∀ x∈s.all,Rep x:=fun x hx=>lett_rep x ((Sn.inO_iff s).mp (for_lett s h).1 x hx)
theorem for_not (s:Sn) (h:s∈forS) (os:List Str) (ho:os∈([["a", "b", "c"],["c", "a", "b"],["b", "c", "a"]]:List (List Str))):¬ s.inO os:=by
  have hh:("h" : Str) ∉ os∧("d" : Str) ∉ os∧("g" : Str) ∉ os:=by
    revert os
    decide +kernel
  simp only [forS,List.mem_cons,List.not_mem_nil,or_false] at h
  rcases h with rfl | rfl | rfl | rfl
  · exact hh.1
  · exact fun z=>hh.1 z.1
  · exact fun z=>hh.2.1 z.1
  · exact fun z=>hh.2.2 z.2
def rowsN (far:Int):List (List Int):=[[],[0,1],[0,1,0,1],[0,2,1],[1,-1,0],[0,0,2 + far],[-1 - far,1,1]]
def rowsD (far:Int):Dt:=lsq ((rowsN far).map fun ns=>lsq (ns.map .n))
theorem rowsN_no {far:Int} (h0:0≤far):∀ ns∈rowsN far,rowB 3 ns = false∧ns.length≤10:=by
  intro ns h
  have bd:∀ {ns:List Int} (x:Int),x∈ns→x≠0∧x≠1→rowB 3 ns = false:=fun {ns} x hx e=>by
    unfold rowB
    rw [Bool.and_eq_false_iff]
    right
    rw [List.all_eq_false]
    refine ⟨x,hx,?_⟩
    simp [e.1,e.2]
  simp only [rowsN,List.mem_cons,List.not_mem_nil,or_false] at h
  rcases h with rfl | rfl | rfl | rfl | rfl | rfl | rfl
  · exact ⟨by decide,by decide⟩
  · exact ⟨by decide,by decide⟩
  · exact ⟨by decide,by decide⟩
  · exact ⟨by decide,by decide⟩
  · exact ⟨by decide,by decide⟩
  · exact ⟨bd (2 + far) (by simp) (by omega),by simp⟩
  · exact ⟨bd (-1 - far) (by simp) (by omega),by simp⟩
inductive spRowBy (vs:List V) (H:Hp) (Q:VK) (E9:XK):Prop
  | mk (c far:Int) (_:vs = [.int c,.int far]) (_:0≤far) (_:∀ (r:Addr) H' (ns:List Int),Same H H'→H' r = some (.lst (ns.map V.int))→ns.length≤10→rowB 3 ns = !decide (c % 3 = 1)→Q (.ref r) H'):spRowBy vs H Q E9
def du:Nat→Bool→Nat→Bool→Option Nat
  | 0,w0,ks,w3=>if w0 then some 0 else if ks = 1 then some 1 else if ks = 2 then some 2 else if w3 then some 5 else none
  | 1,w0,_,_=>if w0 then some 0 else none
  | 2,_,ks,_=>if ks = 1 then some 1 else if ks = 2 then some 2 else none
  | _,_,ks,_=>if ks = 1 then some 1 else none
structure Asked (K:PySem.W.Frag) (H:Hp) (o p r:Addr) (w0:Bool) (ks:Nat) (w3:Bool):Prop where
  ord:∃ os,SqL K H o (os.map V.str)∧os∈(if w0 then badO else goodO)
  sen:SenK H p ks
  row:∃ ns:List Int,SqL K H r (ns.map V.int)∧ns.length≤10∧rowB 3 ns = !w3
inductive spDone5 (cs:List Addr) (K:PySem.W.Frag) (vs:List V) (H:Hp) (Q:VK) (E:XK):Prop
  | mk (way:Nat) (o p r:Addr) (w0:Bool) (ks:Nat) (w3:Bool) (_:vs = [.int (way:Nat),.ref o,.ref p,.ref r]) (_:way < 6) (_:Asked K H o p r w0 ks w3)
    (_:du way w0 ks w3 = none→∀ H',Same H H'→Q .non H') (_:∀ n D,du way w0 ks w3 = some n→cs[n]? = some D→∀ H',Same H H'→E (.ref D) none H'):spDone5 cs K vs H Q E
inductive spMet5 (K:PySem.W.Frag) (vs:List V) (H:Hp) (Q:VK) (E9:XK):Prop
  | mk (way:Nat) (o p r:Addr) (w0:Bool) (ks:Nat) (w3:Bool) (_:vs = [.int (way:Nat),.ref o,.ref p,.ref r]) (_:way < 6) (_:Asked K H o p r w0 ks w3)
    (_:du way w0 ks w3 = none→∀ H',Same H H'→Q .non H') (_:∀ n l H',du way w0 ks w3 = some n→Same H H'→H' l = some (.lst ((isL (n:Nat)).map V.bl))→Q (.ref l) H'):spMet5 K vs H Q E9
inductive spEntered5 (vs:List V) (H:Hp) (Q:VK) (E9:XK):Prop
  | mk (p:Addr) (ks:Nat) (_:vs = [.ref p,.bl (decide (ks = 0))]) (_:SenK H p ks) (_:∀ H',Q (.bl true) H'):spEntered5 vs H Q E9
end Sen
namespace Sen
open PySem L2 Bdd
theorem pd_getW {α β:Type} {R:α→β→Prop}:∀ {xs:List α} {ys:List β} (j:Nat),Paired R xs ys→j < xs.length→∃ x y,xs[j]? = some x∧ys[j]? = some y∧R x y
  | _,_,j,.nil,h=>absurd h (Nat.not_lt_zero _)
  | x :: xs,y :: ys,0,.cons a b,_=>⟨x,y,rfl,rfl,a⟩
  | x :: xs,y :: ys,j + 1,.cons a b,h=>pd_getW j b (Nat.lt_of_succ_lt_succ h)
theorem pick {α:Type} {R:α→V→Prop} {ds:List α} {vs:List V} (h:Paired R ds vs) {i:Int} (h0:0≤i) (h1:i < (ds.length:Nat)):∃ (v:V) (d:α) (j:Nat),atI vs i = some v∧ds[j]? = some d∧d∈ds∧R d v:=by
  obtain ⟨d,v,h2,h3,h4⟩:=pd_getW i.toNat h (by omega)
  have e:((i.toNat:Nat):Int) = i:=Int.toNat_of_nonneg h0
  refine ⟨v,d,i.toNat,?_,h2,List.mem_of_getElem? h2,h4⟩
  rw [← e]
  exact atI_nat h3
theorem mod_in (c:Int) {m:Int} (h:0 < m):0≤c % m∧c % m < m:=⟨Int.emod_nonneg _ (by omega),Int.emod_lt_of_pos _ h⟩
theorem pd_mapW {α β γ:Type} {R:β→γ→Prop} {f:α→β}:∀ {xs:List α} {ys:List γ},Paired R (xs.map f) ys→Paired (fun a y=>R (f a) y) xs ys
  | [],[],.nil=>.nil
  | x :: xs,y :: ys,.cons a b=>.cons a (pd_mapW b)
theorem pdW_mono {H H':Hp} (g:Same H H'):∀ {ds:List Dt} {vs:List V},Paired (IsW H) ds vs→Paired (IsW H') ds vs
  | _,_,.nil=>.nil
  | _,_,.cons a b=>.cons (IsW.mono a g) (pdW_mono g b)
theorem odd_tup:∀ d∈odd1 ++ odd2,(toT d).tup = true:=by decide +kernel
theorem odd_ref {H:Hp} {d:Dt} {v:V} (m:d∈odd1 ++ odd2) (h:IsW H d v):∃ p,v = .ref p∧SenK H p 1:=by
  have t:=IsW.tree h (odd_bad d m).1
  obtain ⟨p,rfl⟩:=IsT.tup t (odd_tup d m)
  exact ⟨p,rfl,.inr (.inl ⟨rfl,_,t,(odd_bad d m).2⟩)⟩
theorem for_ref {H:Hp} {d:Dt} {v:V} {j:Nat} (m:forD[j]? = some d) (h:IsW H d v):∃ p,v = .ref p∧SenK H p 2:=by
  have t:=IsW.tree h (for_ok d (List.mem_of_getElem? m))
  have e:(forD.map toT)[j]? = some (toT d):=by rw [List.getElem?_map,m]; rfl
  rw [for_tree,List.getElem?_map,Option.map_eq_some_iff] at e
  obtain ⟨s,h1,h2⟩:=e
  rw [← h2] at t
  obtain ⟨p,rfl⟩:=IsT.tup t (trS_tup s)
  exact ⟨p,rfl,.inr (.inr ⟨rfl,s,List.mem_of_getElem? h1,isS_of t⟩)⟩
theorem gd_ref {H:Hp} {v:V} (h:IsW H gdD v):∃ p,v = .ref p∧SenK H p 0:=by
  have t:=IsW.tree h gd_tree.1
  rw [gd_tree.2] at t
  obtain ⟨p,rfl⟩:=IsT.tup t (trS_tup gS)
  exact ⟨p,rfl,.inl ⟨rfl,isS_of t⟩⟩
def spWorth5 (Do Ds Dm Dr:Addr) (K:PySem.W.Frag):Sp:=fun vs H Q E=>spWorth K vs H Q E∨spWorthX Do Ds Dm Dr K vs H Q E
def spInit5 (C D:Addr) (K:PySem.W.Frag):Sp:=fun vs H Q E=>spBookInit (BookAt C) K C vs H Q E∨spInitR D K vs H Q E
def spEnter5 (C Ds Dm:Addr):Sp:=fun vs H Q E=>spBookEnter (BookAt C) vs H Q E∨spEnterR C Ds Dm vs H Q E
def spWords5 (D:Addr):Sp:=fun vs H Q E=>spWordsN vs H Q E∨spSenR D vs H Q E
def spMarks5 (D:Addr):Sp:=fun vs H Q E=>spMarksOf vs H Q E∨spSenR D vs H Q E
def spShown5 (D:Addr):Sp:=fun vs H Q E=>spWritten 24 vs H Q E∨spSenR D vs H Q E
theorem du_in {way:Nat} {w0:Bool} {ks:Nat} {w3:Bool} {n:Nat} (h:du way w0 ks w3 = some n):n = 0∨n = 1∨n = 2∨n = 5:=by
  unfold du at h
  split at h
  · split at h
    · cases h; exact .inl rfl
    split at h
    · cases h; exact .inr (.inl rfl)
    split at h
    · cases h; exact .inr (.inr (.inl rfl))
    split at h
    · cases h; exact .inr (.inr (.inr rfl))
    · cases h
  · split at h
    · cases h; exact .inl rfl
    · cases h
  · split at h
    · cases h; exact .inr (.inl rfl)
    split at h
    · cases h; exact .inr (.inr (.inl rfl))
    · cases h
  · split at h
    · cases h; exact .inr (.inl rfl)
    · cases h
def askN:List (List Int):=[[0,1,2,3],[0],[1,2],[1],[1],[1]]
def askD:Dt:=lsq (askN.map fun ns=>lsq (ns.map .n))
end Sen
namespace L2
open PySem PySem.Spec PyProof.Rows
section
variable {X:Cx} {k:Nat} {f ex C:Addr} {fd:FuncData} {ps:List Str} {sp:Sp} {m q:Str} {st:Stmt} {apos pos:Pos} {o:Expr} {ta:TE}
theorem pe_meth0H {pl:Sem Bool} (he:PE X o ta) (c:Cls X.K C) (D:Dm X.K C m q st f fd ps) (F:FnOkH X.prog X.w X.K X.mg X.base ex k f fd ps sp) (hr:RoomH k X.A) (hh:X.A.handled = some (.ref ex))
    (ht:eval (.Call (.Attribute o m apos) [] [] pos) X.env = (do
      let ov ← eval o X.env
      standAt apos.atName
      let (f,first) ← holding [ov] (getMethod ov m pl)
      callWith pos f first (backTo pos (starEach [] X.env)) (backToKw pos (keywordEach [] X.env))):=by rfl) :
    PE X (.Call (.Attribute o m apos) [] [] pos) (tMeth C m sp [] E0 ta tNil):=by
  intro pins s σ H Q I h
  refine PySem.W.methodCall_KW (pl:=pl) (thn (he pins s σ H _ I h) fun u s1 ⟨x,H1,I1,rx,a,dx,fs,ex,ea,l,q⟩=>?_) ht
  subst ex
  obtain rfl:u = Value.ref a:=rx
  refine getmeth_ok I1 ea c D.e l ?_
  refine PySem.W.callWith_K0 (first:=[.ref a]) I1.kIn D.e.kp ?_
  have r2:Vals [V.ref a] [Value.ref a]:=.cons rfl .nil
  have hl:[Value.ref a].length = ps.length:=by rw [← r2.length]; exact F.len _ _ _ _ q
  refine wpAny_call (codeAny_mono (F.run X.A X.stack s1 H1 ⟨[.ref a],[]⟩ [.ref a] [.ref a] Q E0 hr hh I1.env0 (D.b s1 [.ref a] I1.kIn hl) r2 q) fun r s' hq=>?_)
  cases r with
  | error e=>exact hq.elim
  | ok fl =>
    cases fl with
    | ret u=>exact I1.after hq
    | next=>exact False.elim hq
    | brk=>exact False.elim hq
    | cont=>exact False.elim hq
end
end L2
namespace L2
open PySem PySem.Spec PyProof.Rows
section
variable {K:PySem.W.Frag} {σ:St} {js:List Nat} {tt:TT} {te:TE} {H:Hp} {Qf:Addr→Hp→List V→Prop}
theorem lc_fmA {a:Addr} {α:Type} (c e:α→V) {ps:List α} (p:α→Bool) (hq:SqL K H a (ps.map c)) (hz:ps.length≤sizeLine) (hte:∀ (x:α) H' (Q:V→Hp→Prop),x∈ps→p x = true→Same H H'→(∀ H2,Same H H2→Q (e x) H2)→te (lcS σ js (some (c x))) H' Q)
    (hs:∀ (x:α) H' (Q:Bool→Hp→Prop),x∈ps→Same H H'→(∀ H2,Same H H2→Q (p x) H2)→tt (lcS σ js (some (c x))) H' Q)
    (hd:∀ H' l,Same H H'→H' l = none→Qf l H' ((ps.filter p).map e)) :
    ∃ W:Nat→Nat→List V→Hp→Prop,(∃ m,W 0 m [] H)∧∀ i m ys H,W i m ys H →
      ((Itl K a).stop i H∧∀ p,H p = none→Qf p H ys) ∨
      ((Itl K a).go i H∧ys.length < sizeLine∧∀ x H',(Itl K a).yld i H x H'→tt (lcS σ js (some x)) H' fun b H2 =>
        if b = true then te (lcS σ js (some x)) H2 fun v H3=>∃ m',m' < m∧W (i + 1) m' (ys ++ [v]) H3 else ∃ m',m' < m∧W (i + 1) m' ys H2):=by
  have ln:(ps.map c).length = ps.length:=List.length_map _
  refine ⟨fun i m ys H'=>m = ps.length - i∧i≤ps.length∧Same H H'∧ys = ((ps.take i).filter p).map e,⟨_,by rw [Nat.sub_zero],Nat.zero_le _,Same.refl _,rfl⟩,?_⟩
  rintro i m ys H1 ⟨rfl,hi,g,rfl⟩
  have hy:(((ps.take i).filter p).map e).length≤i:=by
    have:=List.length_filter_le p (ps.take i)
    rw [List.length_take] at this
    rw [List.length_map]
    omega
  by_cases hlt:i < ps.length
  · have hb:ps[i]? = some ps[i]:=List.getElem?_eq_getElem hlt
    generalize ps[i] = b at hb
    have hv:(ps.map c)[i]? = some (c b):=by rw [List.getElem?_map,hb]; rfl
    refine .inr ⟨⟨_,_,g.seq hq,hv⟩,by omega,fun x H' y=>?_⟩
    obtain ⟨e1,y⟩:=y
    subst e1
    have ex:=y _ (g.seq hq)
    rw [hv] at ex
    cases ex
    refine hs b _ _ (List.mem_of_getElem? hb) g fun H2 g2=>?_
    cases ep:p b with
    | true =>
      rw [if_pos rfl]
      refine hte b _ _ (List.mem_of_getElem? hb) ep g2 fun H3 g3=>⟨_,Nat.sub_lt_sub_left hlt (Nat.lt_succ_self i),rfl,hlt,g3,?_⟩
      rw [take_next hb,List.filter_append,List.filter_cons_of_pos ep,List.map_append]
      rfl
    | false =>
      rw [if_neg Bool.false_ne_true]
      refine ⟨_,Nat.sub_lt_sub_left hlt (Nat.lt_succ_self i),rfl,hlt,g2,?_⟩
      rw [take_next hb,List.filter_append,List.filter_cons_of_neg (by rw [ep]; exact Bool.false_ne_true),List.filter_nil,List.append_nil]
  · have e1:i = ps.length:=by omega
    subst e1
    refine .inl ⟨⟨_,g.seq hq,by rw [ln]; exact Nat.le_refl _⟩,fun l hl=>?_⟩
    rw [List.take_length]
    exact hd _ l g hl
end
end L2
namespace Sen
open PySem L2
def askM:List (List Nat):=[[0,1,2,3],[0],[1,2],[1],[1],[1]]
def wrL (w0:Bool) (ks:Nat) (w3:Bool):List Bool:=[w0,decide (ks = 1),decide (ks = 2),w3]
def f4 (k:Nat):Nat:=([0,1,2,5]:List Nat).getD k 0
def dueL (i:Nat) (w0:Bool) (ks:Nat) (w3:Bool):List Nat:=((askM.getD i []).filter fun k=>(wrL w0 ks w3).getD k false).map f4
theorem due_du:∀ i < 6,∀ w0:Bool,∀ ks < 3,∀ w3:Bool,(dueL i w0 ks w3).head? = du i w0 ks w3:=by decide +kernel
theorem ask_in:∀ i < 6,∀ k∈askM.getD i [],k < 4:=by decide
theorem kind_lt (c:Int):kindS c < 3:=by
  unfold kindS
  split
  · decide
  split
  · decide
  split <;> decide
theorem kind1 (c:Int):(decide (c % 4 = 1) || (decide (c % 4 = 3) && decide (c / 4 % 4 = 1))) = decide (kindS c = 1):=by
  unfold kindS
  by_cases h1:c % 4 = 1
  · rw [if_pos h1,decide_eq_true h1]; rfl
  rw [if_neg h1,decide_eq_false h1]
  by_cases h2:c % 4 = 2
  · rw [if_pos h2,decide_eq_false (show ¬ c % 4 = 3 by omega)]; rfl
  rw [if_neg h2]
  by_cases h3:c % 4 = 3∧c / 4 % 4 = 1
  · rw [if_pos h3,decide_eq_true h3.1,decide_eq_true h3.2]; rfl
  · rw [if_neg h3]
    by_cases h4:c % 4 = 3
    · rw [decide_eq_true h4,decide_eq_false (fun z=>h3 ⟨h4,z⟩)]; rfl
    · rw [decide_eq_false h4]; rfl
theorem kind2 (c:Int):decide (c % 4 = 2) = decide (kindS c = 2):=by
  unfold kindS
  by_cases h1:c % 4 = 1
  · rw [if_pos h1,decide_eq_false (show ¬ c % 4 = 2 by omega)]; rfl
  rw [if_neg h1]
  by_cases h2:c % 4 = 2
  · rw [if_pos h2,decide_eq_true h2]; rfl
  rw [if_neg h2,decide_eq_false h2]
  split <;> rfl
theorem val_or {ta tb:TE} {σ:St} {H:Hp} {Q:VK} {b1 b2:Bool} (h1:∀ Q:VK,Q (.bl b1) H→ta σ H Q) (h2:∀ Q:VK,Q (.bl b2) H→tb σ H Q) (q:Q (.bl (b1 || b2)) H):tOrV ta tb σ H Q:=by
  refine h1 _ ⟨b1,rfl,?_⟩
  cases b1
  · exact h2 _ q
  · exact q
theorem val_and {ta tb:TE} {σ:St} {H:Hp} {Q:VK} {b1 b2:Bool} (h1:∀ Q:VK,Q (.bl b1) H→ta σ H Q) (h2:∀ Q:VK,Q (.bl b2) H→tb σ H Q) (q:Q (.bl (b1 && b2)) H):tAndV ta tb σ H Q:=by
  refine h1 _ ⟨b1,rfl,?_⟩
  cases b1
  · exact q
  · exact h2 _ q
theorem decI (x y:Int):decide (V.int x = V.int y) = decide (x = y):=by
  by_cases h:x = y
  · subst h; rw [decide_eq_true rfl,decide_eq_true rfl]
  · rw [decide_eq_false h,decide_eq_false (fun z=>h (V.int.inj z))]
theorem ask_at:∀ i < 6,askN[i]? = some ((askM.getD i []).map fun (k:Nat)=>(k:Int)):=by decide
theorem wr_at (w0:Bool) (ks:Nat) (w3:Bool) {k:Nat} (h:k < 4):((wrL w0 ks w3).map V.bl)[k]? = some (.bl ((wrL w0 ks w3).getD k false)):=by
  match k,h with
  | 0,_=>rfl
  | 1,_=>rfl
  | 2,_=>rfl
  | 3,_=>rfl
theorem f4_at {k:Nat} (h:k < 4):([.int 0,.int 1,.int 2,.int 5]:List V)[k]? = some (.int ((f4 k:Nat):Int)):=by
  match k,h with
  | 0,_=>rfl
  | 1,_=>rfl
  | 2,_=>rfl
  | 3,_=>rfl
theorem due_len (i:Nat) (hi:i < 6) (w0:Bool) (ks:Nat) (w3:Bool):(askM.getD i []).length≤sizeLine:=by
  have:∀ i < 6,(askM.getD i []).length≤4:=by decide
  exact Nat.le_trans (this i hi) (by decide)
theorem eq_nil {K:PySem.W.Frag} {H:Hp} {p q:Addr} {xs:List V} (h1:SqL K H p xs) (h2:SqL K H q []):EqD K H 8 (.ref p) (.ref q) xs.isEmpty:=by
  cases xs with
  | nil=>exact EqD.ll (n:=7) (e:=fun _=>true) h1 h2 rfl (fun j x y h=>nomatch h)
  | cons x r=>exact EqD.ln (n:=7) h1 h2 (fun z=>nomatch z)
theorem good_ks {ks:Nat} (h:ks < 3):(!decide (ks = 1) && !decide (ks = 2)) = decide (ks = 0):=by
  match ks,h with
  | 0,_=>rfl
  | 1,_=>rfl
  | 2,_=>rfl
end Sen
namespace K05
open PySem L2
def top (i:Nat):Stmt:=PySem.Challenge.pw_decidebook_k05_sentences_orders_and_rows.main.body.getD i (.Pass ⟨0,0,0,0⟩)
abbrev S_all_rows:Stmt:=top 12
abbrev p_all_rows:List Str:=["marks"]
theorem sc_all_rows:FnScope ["marks"] p_all_rows (defScope S_all_rows):=fsc (by decide +kernel)
abbrev S_rows_with:Stmt:=top 13
abbrev p_rows_with:List Str:=["place", "marks"]
theorem sc_rows_with:FnScope ["place", "marks", "half", "table", "further"] p_rows_with (defScope S_rows_with):=fsc (by decide +kernel)
abbrev S_flipped:Stmt:=top 14
abbrev p_flipped:List Str:=["table", "place", "marks"]
theorem sc_flipped:FnScope ["table", "place", "marks", "ones", "noughts"] p_flipped (defScope S_flipped):=fsc (by decide +kernel)
abbrev S_value_at:Stmt:=top 15
abbrev p_value_at:List Str:=["table", "row"]
theorem sc_value_at:FnScope ["table", "row", "bit", "place", "value"] p_value_at (defScope S_value_at):=fsc (by decide +kernel)
abbrev S_held_at:Stmt:=top 16
abbrev p_held_at:List Str:=["table", "place", "value", "marks"]
theorem sc_held_at:FnScope ["table", "place", "value", "marks", "ones", "kept"] p_held_at (defScope S_held_at):=fsc (by decide +kernel)
abbrev S_hangs_on:Stmt:=top 17
abbrev p_hangs_on:List Str:=["table", "place", "marks"]
theorem sc_hangs_on:FnScope ["table", "place", "marks"] p_hangs_on (defScope S_hangs_on):=fsc (by decide +kernel)
abbrev S_first_place:Stmt:=top 18
abbrev p_first_place:List Str:=["table", "marks"]
theorem sc_first_place:FnScope ["table", "marks", "place"] p_first_place (defScope S_first_place):=fsc (by decide +kernel)
abbrev S_is_mark:Stmt:=top 24
abbrev p_is_mark:List Str:=["letter"]
theorem sc_is_mark:FnScope ["letter"] p_is_mark (defScope S_is_mark):=fsc (by decide +kernel)
abbrev S_is_order:Stmt:=top 25
abbrev p_is_order:List Str:=["order"]
theorem sc_is_order:FnScope ["order"] p_is_order (defScope S_is_order):=fsc (by decide +kernel)
abbrev S_is_row:Stmt:=top 26
abbrev p_is_row:List Str:=["order", "row"]
theorem sc_is_row:FnScope ["order", "row"] p_is_row (defScope S_is_row):=fsc (by decide +kernel)
abbrev S_letters_of:Stmt:=top 27
abbrev p_letters_of:List Str:=["sentence"]
theorem sc_letters_of:FnScope ["sentence"] p_letters_of (defScope S_letters_of):=fsc (by decide +kernel)
abbrev S_parts_of:Stmt:=top 28
abbrev p_parts_of:List Str:=["sentence"]
theorem sc_parts_of:FnScope ["sentence"] p_parts_of (defScope S_parts_of):=fsc (by decide +kernel)
abbrev S_parts_of_all:Stmt:=top 29
abbrev p_parts_of_all:List Str:=["level"]
theorem sc_parts_of_all:FnScope ["level", "found", "sentence"] p_parts_of_all (defScope S_parts_of_all):=fsc (by decide +kernel)
abbrev S_is_shaped:Stmt:=top 30
abbrev p_is_shaped:List Str:=["some"]
theorem sc_is_shaped:FnScope ["some", "shape"] p_is_shaped (defScope S_is_shaped):=fsc (by decide +kernel)
abbrev S_is_sentence:Stmt:=top 31
abbrev p_is_sentence:List Str:=["some"]
theorem sc_is_sentence:FnScope ["some", "level", "deep", "tuples"] p_is_sentence (defScope S_is_sentence):=fsc (by decide +kernel)
abbrev S_must_be_order:Stmt:=top 32
abbrev p_must_be_order:List Str:=["order"]
theorem sc_must_be_order:FnScope ["order"] p_must_be_order (defScope S_must_be_order):=fsc (by decide +kernel)
abbrev S_must_be_sentence:Stmt:=top 33
abbrev p_must_be_sentence:List Str:=["some"]
theorem sc_must_be_sentence:FnScope ["some"] p_must_be_sentence (defScope S_must_be_sentence):=fsc (by decide +kernel)
abbrev S_must_have_mark:Stmt:=top 34
abbrev p_must_have_mark:List Str:=["order", "letter"]
theorem sc_must_have_mark:FnScope ["order", "letter"] p_must_have_mark (defScope S_must_have_mark):=fsc (by decide +kernel)
abbrev S_must_have_marks:Stmt:=top 35
abbrev p_must_have_marks:List Str:=["order", "sentence"]
theorem sc_must_have_marks:FnScope ["order", "sentence", "letter"] p_must_have_marks (defScope S_must_have_marks):=fsc (by decide +kernel)
abbrev S_must_be_row:Stmt:=top 36
abbrev p_must_be_row:List Str:=["order", "row"]
theorem sc_must_be_row:FnScope ["order", "row"] p_must_be_row (defScope S_must_be_row):=fsc (by decide +kernel)
abbrev S_tuples_in:Stmt:=top 37
abbrev p_tuples_in:List Str:=["sentence"]
theorem sc_tuples_in:FnScope ["sentence", "found", "level"] p_tuples_in (defScope S_tuples_in):=fsc (by decide +kernel)
abbrev S_words:Stmt:=top 38
abbrev p_words:List Str:=["sentence"]
theorem sc_words:FnScope ["sentence"] p_words (defScope S_words):=fsc (by decide +kernel)
abbrev S_letters_in:Stmt:=top 39
abbrev p_letters_in:List Str:=["sentence"]
theorem sc_letters_in:FnScope ["sentence", "found", "part"] p_letters_in (defScope S_letters_in):=fsc (by decide +kernel)
abbrev S_marks_of:Stmt:=top 40
abbrev p_marks_of:List Str:=["sentence"]
theorem sc_marks_of:FnScope ["sentence"] p_marks_of (defScope S_marks_of):=fsc (by decide +kernel)
abbrev S_table_of:Stmt:=top 41
abbrev p_table_of:List Str:=["sentence", "order"]
theorem sc_table_of:FnScope ["sentence", "order", "word", "marks", "tables"] p_table_of (defScope S_table_of):=fsc (by decide +kernel)
abbrev S_table_of_two:Stmt:=top 42
abbrev p_table_of_two:List Str:=["word", "one", "other", "every"]
theorem sc_table_of_two:FnScope ["word", "one", "other", "every"] p_table_of_two (defScope S_table_of_two):=fsc (by decide +kernel)
abbrev S_worth:Stmt:=top 43
abbrev p_worth:List Str:=["sentence", "order", "row"]
theorem sc_worth:FnScope ["sentence", "order", "row"] p_worth (defScope S_worth):=fsc (by decide +kernel)
abbrev S_Book_init:Stmt:=inClass (top 45) 0
abbrev p_Book_init:List Str:=["self", "order"]
theorem sc_Book_init:FnScope ["self", "order", "marks"] p_Book_init (defScope S_Book_init):=fsc (by decide +kernel)
abbrev S_Book_order:Stmt:=inClass (top 45) 1
abbrev p_Book_order:List Str:=["self"]
abbrev S_Book_size:Stmt:=inClass (top 45) 2
abbrev p_Book_size:List Str:=["self"]
theorem sc_Book_size:FnScope ["self"] p_Book_size (defScope S_Book_size):=fsc (by decide +kernel)
abbrev S_Book_enter:Stmt:=inClass (top 45) 3
abbrev p_Book_enter:List Str:=["self", "sentence"]
theorem sc_Book_enter:FnScope ["self", "sentence"] p_Book_enter (defScope S_Book_enter):=fsc (by decide +kernel)
abbrev S_Book_room_with:Stmt:=inClass (top 45) 12
abbrev p_Book_room_with:List Str:=["self", "table"]
theorem sc_Book_room_with:FnScope ["self", "table", "marks", "place", "low", "high"] p_Book_room_with (defScope S_Book_room_with):=fsc (by decide +kernel)
abbrev S_shown:Stmt:=top 47
abbrev p_shown:List Str:=["sentence"]
theorem sc_shown:FnScope ["sentence"] p_shown (defScope S_shown):=fsc (by decide +kernel)
abbrev S_written:Stmt:=top 48
abbrev p_written:List Str:=["sentence"]
theorem sc_written:FnScope ["sentence", "head", "parts", "inner"] p_written (defScope S_written):=fsc (by decide +kernel)
abbrev S_x_law_cell_at:Stmt:=top 50
abbrev p_x_law_cell_at:List Str:=["script", "k"]
theorem sc_x_law_cell_at:FnScope ["script", "k"] p_x_law_cell_at (defScope S_x_law_cell_at):=fsc (by decide +kernel)
abbrev S_x_law_which:Stmt:=top 52
abbrev p_x_law_which:List Str:=["e"]
theorem sc_x_law_which:FnScope ["e", "told"] p_x_law_which (defScope S_x_law_which):=fsc (by decide +kernel)
abbrev S_x_law_is:Stmt:=top 53
abbrev p_x_law_is:List Str:=["told", "due"]
theorem sc_x_law_is:FnScope ["told", "due"] p_x_law_is (defScope S_x_law_is):=fsc (by decide +kernel)
abbrev S_x_law_order_by:Stmt:=top 54
abbrev p_x_law_order_by:List Str:=["cell"]
theorem sc_x_law_order_by:FnScope ["cell"] p_x_law_order_by (defScope S_x_law_order_by):=fsc (by decide +kernel)
abbrev S_x_law_sentence_by:Stmt:=top 55
abbrev p_x_law_sentence_by:List Str:=["cell"]
theorem sc_x_law_sentence_by:FnScope ["cell", "good", "odd", "foreign", "some", "k"] p_x_law_sentence_by (defScope S_x_law_sentence_by):=fsc (by decide +kernel)
abbrev S_x_law_row_by:Stmt:=top 56
abbrev p_x_law_row_by:List Str:=["cell", "far"]
theorem sc_x_law_row_by:FnScope ["cell", "far"] p_x_law_row_by (defScope S_x_law_row_by):=fsc (by decide +kernel)
abbrev S_x_law_done:Stmt:=top 57
abbrev p_x_law_done:List Str:=["way", "order", "sentence", "row"]
theorem sc_x_law_done:FnScope ["way", "order", "sentence", "row"] p_x_law_done (defScope S_x_law_done):=fsc (by decide +kernel)
abbrev S_x_law_met:Stmt:=top 58
abbrev p_x_law_met:List Str:=["way", "order", "sentence", "row"]
theorem sc_x_law_met:FnScope ["way", "order", "sentence", "row", "told", "e"] p_x_law_met (defScope S_x_law_met):=fsc (by decide +kernel)
abbrev S_x_law_entered:Stmt:=top 59
abbrev p_x_law_entered:List Str:=["sentence", "good"]
theorem sc_x_law_entered:FnScope ["sentence", "good", "book"] p_x_law_entered (defScope S_x_law_entered):=fsc (by decide +kernel)
abbrev S_law:Stmt:=top 60
abbrev p_law:List Str:=["script"]
theorem sc_law:FnScope ["script", "cells", "order", "sentence", "row", "wrong", "asked", "way", "due", "told"] p_law (defScope S_law):=fsc (by decide +kernel)
def tb_SHAPES:List (Str × Int × Int):=[("yes", 0,0),("no", 0,0),("mark", 1,0),("not", 0,1),("and", 0,2),("or", 0,2),("either", 0,2),("if", 0,2),("some", 1,1),("each", 1,1)]
set_option genInjectivity false in
set_option genSizeOf false in
structure Ad where
  a_all_rows:Addr
  d_all_rows:FuncData
  a_rows_with:Addr
  d_rows_with:FuncData
  a_flipped:Addr
  d_flipped:FuncData
  a_value_at:Addr
  d_value_at:FuncData
  a_held_at:Addr
  d_held_at:FuncData
  a_hangs_on:Addr
  d_hangs_on:FuncData
  a_first_place:Addr
  d_first_place:FuncData
  a_is_mark:Addr
  d_is_mark:FuncData
  a_is_order:Addr
  d_is_order:FuncData
  a_is_row:Addr
  d_is_row:FuncData
  a_letters_of:Addr
  d_letters_of:FuncData
  a_parts_of:Addr
  d_parts_of:FuncData
  a_parts_of_all:Addr
  d_parts_of_all:FuncData
  a_is_shaped:Addr
  d_is_shaped:FuncData
  a_is_sentence:Addr
  d_is_sentence:FuncData
  a_must_be_order:Addr
  d_must_be_order:FuncData
  a_must_be_sentence:Addr
  d_must_be_sentence:FuncData
  a_must_have_mark:Addr
  d_must_have_mark:FuncData
  a_must_have_marks:Addr
  d_must_have_marks:FuncData
  a_must_be_row:Addr
  d_must_be_row:FuncData
  a_tuples_in:Addr
  d_tuples_in:FuncData
  a_words:Addr
  d_words:FuncData
  a_letters_in:Addr
  d_letters_in:FuncData
  a_marks_of:Addr
  d_marks_of:FuncData
  a_table_of:Addr
  d_table_of:FuncData
  a_table_of_two:Addr
  d_table_of_two:FuncData
  a_worth:Addr
  d_worth:FuncData
  a_Book_init:Addr
  d_Book_init:FuncData
  a_Book_order:Addr
  d_Book_order:FuncData
  a_Book_size:Addr
  d_Book_size:FuncData
  a_Book_enter:Addr
  d_Book_enter:FuncData
  a_Book_room_with:Addr
  d_Book_room_with:FuncData
  a_shown:Addr
  d_shown:FuncData
  a_written:Addr
  d_written:FuncData
  a_x_law_cell_at:Addr
  d_x_law_cell_at:FuncData
  a_x_law_which:Addr
  d_x_law_which:FuncData
  a_x_law_is:Addr
  d_x_law_is:FuncData
  a_x_law_order_by:Addr
  d_x_law_order_by:FuncData
  a_x_law_sentence_by:Addr
  d_x_law_sentence_by:FuncData
  a_x_law_row_by:Addr
  d_x_law_row_by:FuncData
  a_x_law_done:Addr
  d_x_law_done:FuncData
  a_x_law_met:Addr
  d_x_law_met:FuncData
  a_x_law_entered:Addr
  d_x_law_entered:FuncData
  a_law:Addr
  d_law:FuncData
  a_Book:Addr
  a_BookError:Addr
  a_NoOrder:Addr
  a_NoSentence:Addr
  a_NoMark:Addr
  a_NoRoom:Addr
  a_NoWord:Addr
  a_NoRow:Addr
  a_NoNumber:Addr
  a_NoNote:Addr
  a_MARKS:Addr
  t_MOST_TUPLES:Tok
  t_MOST_DEEP:Tok
  a_SHAPES:Addr
  kv_SHAPES:List (Str × Value)
structure Txt (P:Program) (w:World) (K:PySem.W.Frag) (mg:Str→Option Value) (a:Ad):Prop where
  m_Book:mg "Book" = some (.ref a.a_Book)
  m_BookError:mg "BookError" = some (.ref a.a_BookError)
  m_NoOrder:mg "NoOrder" = some (.ref a.a_NoOrder)
  m_NoSentence:mg "NoSentence" = some (.ref a.a_NoSentence)
  m_NoMark:mg "NoMark" = some (.ref a.a_NoMark)
  m_NoRoom:mg "NoRoom" = some (.ref a.a_NoRoom)
  m_NoWord:mg "NoWord" = some (.ref a.a_NoWord)
  m_NoRow:mg "NoRow" = some (.ref a.a_NoRow)
  m_NoNumber:mg "NoNumber" = some (.ref a.a_NoNumber)
  m_NoNote:mg "NoNote" = some (.ref a.a_NoNote)
  f_all_rows:Df K mg "all_rows" S_all_rows a.a_all_rows a.d_all_rows p_all_rows
  f_rows_with:Df K mg "rows_with" S_rows_with a.a_rows_with a.d_rows_with p_rows_with
  f_flipped:Df K mg "flipped" S_flipped a.a_flipped a.d_flipped p_flipped
  f_value_at:Df K mg "value_at" S_value_at a.a_value_at a.d_value_at p_value_at
  f_held_at:Df K mg "held_at" S_held_at a.a_held_at a.d_held_at p_held_at
  f_hangs_on:Df K mg "hangs_on" S_hangs_on a.a_hangs_on a.d_hangs_on p_hangs_on
  f_first_place:Df K mg "first_place" S_first_place a.a_first_place a.d_first_place p_first_place
  f_is_mark:Df K mg "is_mark" S_is_mark a.a_is_mark a.d_is_mark p_is_mark
  f_is_order:Df K mg "is_order" S_is_order a.a_is_order a.d_is_order p_is_order
  f_is_row:Df K mg "is_row" S_is_row a.a_is_row a.d_is_row p_is_row
  f_letters_of:Df K mg "letters_of" S_letters_of a.a_letters_of a.d_letters_of p_letters_of
  f_parts_of:Df K mg "parts_of" S_parts_of a.a_parts_of a.d_parts_of p_parts_of
  f_parts_of_all:Df K mg "parts_of_all" S_parts_of_all a.a_parts_of_all a.d_parts_of_all p_parts_of_all
  f_is_shaped:Df K mg "is_shaped" S_is_shaped a.a_is_shaped a.d_is_shaped p_is_shaped
  f_is_sentence:Df K mg "is_sentence" S_is_sentence a.a_is_sentence a.d_is_sentence p_is_sentence
  f_must_be_order:Df K mg "must_be_order" S_must_be_order a.a_must_be_order a.d_must_be_order p_must_be_order
  f_must_be_sentence:Df K mg "must_be_sentence" S_must_be_sentence a.a_must_be_sentence a.d_must_be_sentence p_must_be_sentence
  f_must_have_mark:Df K mg "must_have_mark" S_must_have_mark a.a_must_have_mark a.d_must_have_mark p_must_have_mark
  f_must_have_marks:Df K mg "must_have_marks" S_must_have_marks a.a_must_have_marks a.d_must_have_marks p_must_have_marks
  f_must_be_row:Df K mg "must_be_row" S_must_be_row a.a_must_be_row a.d_must_be_row p_must_be_row
  f_tuples_in:Df K mg "tuples_in" S_tuples_in a.a_tuples_in a.d_tuples_in p_tuples_in
  f_words:Df K mg "words" S_words a.a_words a.d_words p_words
  f_letters_in:Df K mg "letters_in" S_letters_in a.a_letters_in a.d_letters_in p_letters_in
  f_marks_of:Df K mg "marks_of" S_marks_of a.a_marks_of a.d_marks_of p_marks_of
  f_table_of:Df K mg "table_of" S_table_of a.a_table_of a.d_table_of p_table_of
  f_table_of_two:Df K mg "table_of_two" S_table_of_two a.a_table_of_two a.d_table_of_two p_table_of_two
  f_worth:Df K mg "worth" S_worth a.a_worth a.d_worth p_worth
  f_shown:Df K mg "shown" S_shown a.a_shown a.d_shown p_shown
  f_written:Df K mg "written" S_written a.a_written a.d_written p_written
  f_x_law_cell_at:Df K mg "_law_cell_at" S_x_law_cell_at a.a_x_law_cell_at a.d_x_law_cell_at p_x_law_cell_at
  f_x_law_which:Df K mg "_law_which" S_x_law_which a.a_x_law_which a.d_x_law_which p_x_law_which
  f_x_law_is:Df K mg "_law_is" S_x_law_is a.a_x_law_is a.d_x_law_is p_x_law_is
  f_x_law_order_by:Df K mg "_law_order_by" S_x_law_order_by a.a_x_law_order_by a.d_x_law_order_by p_x_law_order_by
  f_x_law_sentence_by:Df K mg "_law_sentence_by" S_x_law_sentence_by a.a_x_law_sentence_by a.d_x_law_sentence_by p_x_law_sentence_by
  f_x_law_row_by:Df K mg "_law_row_by" S_x_law_row_by a.a_x_law_row_by a.d_x_law_row_by p_x_law_row_by
  f_x_law_done:Df K mg "_law_done" S_x_law_done a.a_x_law_done a.d_x_law_done p_x_law_done
  f_x_law_met:Df K mg "_law_met" S_x_law_met a.a_x_law_met a.d_x_law_met p_x_law_met
  f_x_law_entered:Df K mg "_law_entered" S_x_law_entered a.a_x_law_entered a.d_x_law_entered p_x_law_entered
  f_law:Df K mg "law" S_law a.a_law a.d_law p_law
  f_Book_init:Dm K a.a_Book "__init__" "Book.__init__" S_Book_init a.a_Book_init a.d_Book_init p_Book_init
  f_Book_order:Dm K a.a_Book "order" "Book.order" S_Book_order a.a_Book_order a.d_Book_order p_Book_order
  f_Book_size:Dm K a.a_Book "size" "Book.size" S_Book_size a.a_Book_size a.d_Book_size p_Book_size
  f_Book_enter:Dm K a.a_Book "enter" "Book.enter" S_Book_enter a.a_Book_enter a.d_Book_enter p_Book_enter
  f_Book_room_with:Dm K a.a_Book "room_with" "Book.room_with" S_Book_room_with a.a_Book_room_with a.d_Book_room_with p_Book_room_with
  c_Book:Cls K a.a_Book
  mk_Book:Mk K a.a_Book a.a_Book_init
  na_Book_marks:NoAttr K a.a_Book "marks"
  na_Book_rooms:NoAttr K a.a_Book "rooms"
  na_Book_tables:NoAttr K a.a_Book "tables"
  na_Book_numbers:NoAttr K a.a_Book "numbers"
  ac_NoOrder:AskC K a.a_NoOrder
  ac_NoSentence:AskC K a.a_NoSentence
  ac_NoMark:AskC K a.a_NoMark
  ac_NoRoom:AskC K a.a_NoRoom
  ac_NoWord:AskC K a.a_NoWord
  ac_NoRow:AskC K a.a_NoRow
  ac_NoNumber:AskC K a.a_NoNumber
  ac_NoNote:AskC K a.a_NoNote
  xc_NoOrder:ExcC K a.a_BookError a.a_NoOrder
  xc_NoSentence:ExcC K a.a_BookError a.a_NoSentence
  xc_NoMark:ExcC K a.a_BookError a.a_NoMark
  xc_NoRow:ExcC K a.a_BookError a.a_NoRow
  xb:ExcB K a.a_BookError
  xd:[a.a_BookError,a.a_NoOrder,a.a_NoSentence,a.a_NoMark,a.a_NoRoom,a.a_NoWord,a.a_NoRow,a.a_NoNumber,a.a_NoNote].Nodup
  n_ValueError:mg "ValueError" = none
  m_MARKS:mg "MARKS" = some (.ref a.a_MARKS)
  q_MARKS:∀ H,SqT K H a.a_MARKS ((["a", "b", "c", "d", "e", "f", "g", "h"]:List Str).map V.str)
  m_MOST_TUPLES:mg "MOST_TUPLES" = some (.int 200 a.t_MOST_TUPLES)
  m_MOST_DEEP:mg "MOST_DEEP" = some (.int 24 a.t_MOST_DEEP)
  m_SHAPES:mg "SHAPES" = some (.ref a.a_SHAPES)
  h_SHAPES:Shp K P w a.a_SHAPES a.kv_SHAPES tb_SHAPES
  n_all:mg "all" = none
  n_enumerate:mg "enumerate" = none
  n_isinstance:mg "isinstance" = none
  n_len:mg "len" = none
  n_list:mg "list" = none
  n_range:mg "range" = none
  n_set:mg "set" = none
  n_sorted:mg "sorted" = none
  n_str:mg "str" = none
  n_tuple:mg "tuple" = none
theorem x_law {K:PySem.W.Frag} {mg:Str→Option Value} {f:Addr} {d:FuncData} (F:Df K mg "law" S_law f d p_law):∀ (s:Shared) (u:Value),BindsTo s d ⟨[u],[]⟩ [("script", u)]:=by
  obtain ⟨_,_,_,_,_,_,_,_,_,rfl,_,_⟩:=F.F.ex
  exact fun s u=>.of_eq rfl
theorem ex_mk {P:Program} {w:World} {K:PySem.W.Frag} {mg:Str→Option Value} {x0 x2 x4 x6 x8 x10 x12 x14 x16 x18 x20 x22 x24 x26 x28 x30 x32 x34 x36 x38 x40 x42 x44 x46 x48 x50 x52 x54 x56 x58 x60 x62 x64 x66 x68 x70 x72 x74 x76 x78 x80 x82 x84 x86 x88 x89 x90 x91 x92 x93 x94 x95 x96 x97 x98 x101:Addr} {x1 x3 x5 x7 x9 x11 x13 x15 x17 x19 x21 x23 x25 x27 x29 x31 x33 x35 x37 x39 x41 x43 x45 x47 x49 x51 x53 x55 x57 x59 x61 x63 x65 x67 x69 x71 x73 x75 x77 x79 x81 x83 x85 x87:FuncData} {x99 x100:Tok} {x102:List (Str × Value)} (t:Txt P w K mg ⟨x0,x1,x2,x3,x4,x5,x6,x7,x8,x9,x10,x11,x12,x13,x14,x15,x16,x17,x18,x19,x20,x21,x22,x23,x24,x25,x26,x27,x28,x29,x30,x31,x32,x33,x34,x35,x36,x37,x38,x39,x40,x41,x42,x43,x44,x45,x46,x47,x48,x49,x50,x51,x52,x53,x54,x55,x56,x57,x58,x59,x60,x61,x62,x63,x64,x65,x66,x67,x68,x69,x70,x71,x72,x73,x74,x75,x76,x77,x78,x79,x80,x81,x82,x83,x84,x85,x86,x87,x88,x89,x90,x91,x92,x93,x94,x95,x96,x97,x98,x99,x100,x101,x102⟩):∃ a,Txt P w K mg a:=⟨_,t⟩
end K05
namespace K05
open PySem L2 Sen
section
variable {P:Program} {w:World} {K:PySem.W.Frag} {mg:Str→Option Value} {base:Heap} {a:Ad} {k:Nat}
theorem ok_is_markX (T:Txt P w K mg a):FnOk P w K mg base CX0 (k + 1) a.a_is_mark a.d_is_mark p_is_mark spMarkX:=by
  refine T.f_is_mark.F.ok sc_is_mark (fun vs H Q E h=>?_) (fun cdv A outer s H vs Q E hr h=>?_)
  · obtain ⟨t,v,rfl,_⟩:=h
    rfl
  obtain ⟨t,v,rfl,ht,q⟩:=h
  refine ⟨_,(pss_one (ps_ret (pe_cmpR (op_inD (K:=K) rfl (hu9 hr)) (pv 0) (pe_glob (v:=.ref a.a_MARKS) rfl T.m_MARKS rfl) (by with_unfolding_all rfl)))),?_⟩
  cases e:t.tup with
  | false =>
    obtain ⟨x,rfl,rfl⟩:=ht.str e
    refine ⟨_,rfl,a.a_MARKS,letts.map V.str,fun z=>eqV z (.str x),rfl,.inr (T.q_MARKS H),fun z hz=>.flat (List.all_eq_true.mp (flat_strs _) z hz) rfl,?_⟩
    show Q (.bl (inV (.str x) (letts.map V.str))) H
    rw [inV_strs]
    exact q
  | true =>
    obtain ⟨p,rfl⟩:=ht.tup e
    obtain ⟨vs,hp,_⟩:=ht.cut
    refine ⟨_,rfl,a.a_MARKS,letts.map V.str,fun _=>false,rfl,.inr (T.q_MARKS H),fun z hz=>.ft (SqT.of hp) (List.all_eq_true.mp (flat_strs _) z hz),?_⟩
    show Q (.bl ((letts.map V.str).any fun _=>false)) H
    rw [not_mark]
    rw [ht.mk] at q
    exact q
theorem ok_letters_of (T:Txt P w K mg a):FnOk P w K mg base CX0 (k + 1) a.a_letters_of a.d_letters_of p_letters_of spLettersOf:=by
  refine T.f_letters_of.F.ok sc_letters_of (fun vs H Q E h=>?_) (fun cdv A outer s H vs Q E hr h=>?_)
  · obtain ⟨p,x,m,n,rest,rfl,_⟩:=h
    rfl
  obtain ⟨p,x,m,n,rest,rfl,hp,hm,hl,q⟩:=h
  refine ⟨_,(pss_one (ps_ret (pe_slice sl_tup (pv 0) (po_some pe_int) (po_some (pe_op op_add pe_int (pe_ix ix_tup (pe_ix (ix_dicK T.h_SHAPES.d) (pe_glob (v:=.ref a.a_SHAPES) rfl T.m_SHAPES rfl) (pe_ix ix_tup (pv 0) pe_int (fun _ _=>rfl)) (fun _ _=>rfl)) pe_int (fun _ _=>rfl))))))),?_⟩
  obtain ⟨pt,hv,hpt⟩:=T.h_SHAPES.y x m n hm
  refine ⟨_,rfl,1,rfl,_,rfl,p,_,0,_,rfl,rfl,SqT.of hp,at0,x,.ref pt,.ref pt,rfl,rfl,hv,rfl,pt,_,0,_,rfl,rfl,hpt H,at0,1,(m:Int),rfl,rfl,_,rfl,p,_,rfl,SqT.of hp,not_whole1 (by decide),fun z hz=>?_⟩
  rw [cut_fore hl]
  exact q z hz
theorem ok_parts_of (T:Txt P w K mg a):FnOk P w K mg base CX0 (k + 1) a.a_parts_of a.d_parts_of p_parts_of spPartsOf:=by
  refine T.f_parts_of.F.ok sc_parts_of (fun vs H Q E h=>?_) (fun cdv A outer s H vs Q E hr h=>?_)
  · obtain ⟨p,x,m,n,rest,rfl,_⟩:=h
    rfl
  obtain ⟨p,x,m,n,rest,rfl,hp,hm,hl,q⟩:=h
  refine ⟨_,(pss_one (ps_ret (pe_slice sl_tup (pv 0) (po_some (pe_op op_add pe_int (pe_ix ix_tup (pe_ix (ix_dicK T.h_SHAPES.d) (pe_glob (v:=.ref a.a_SHAPES) rfl T.m_SHAPES rfl) (pe_ix ix_tup (pv 0) pe_int (fun _ _=>rfl)) (fun _ _=>rfl)) pe_int (fun _ _=>rfl)))) po_none))),?_⟩
  obtain ⟨pt,hv,hpt⟩:=T.h_SHAPES.y x m n hm
  refine ⟨_,rfl,_,rfl,p,_,0,_,rfl,rfl,SqT.of hp,at0,x,.ref pt,.ref pt,rfl,rfl,hv,rfl,pt,_,0,_,rfl,rfl,hpt H,at0,1,(m:Int),rfl,rfl,_,rfl,p,_,rfl,SqT.of hp,not_whole1 (by omega),fun z hz=>?_⟩
  rw [cut_rear hl]
  exact q z hz
theorem ok_is_shapedX (T:Txt P w K mg a) (G_is_mark:FnOk P w K mg base CX0 k a.a_is_mark a.d_is_mark p_is_mark spMarkX) (G_letters_of:FnOk P w K mg base CX0 k a.a_letters_of a.d_letters_of p_letters_of spLettersOf) (G_parts_of:FnOk P w K mg base CX0 k a.a_parts_of a.d_parts_of p_parts_of spPartsOf) :
    FnOk P w K mg base CX0 (k + 1) a.a_is_shaped a.d_is_shaped p_is_shaped spShapedX:=by
  refine T.f_is_shaped.F.ok sc_is_shaped (fun vs H Q E h=>?_) (fun cdv A outer s H vs Q E hr h=>?_)
  · obtain ⟨p,t,rfl,_⟩:=h
    rfl
  obtain ⟨p,t,rfl,ht,q⟩:=h
  refine ⟨_,(pss_cons (ps_if (PW.pt (pw_or (pt_cmpR op_eq (pe_callB call_len_seq rfl T.n_len bt_len (pa_cons (pv 0) pa_nil)) pe_int (nomark _)) (pw_or (pt_not (pt_truth (pe_callB call_isinst rfl T.n_isinstance bt_isinstance (pa_cons (pe_ix ix_tup (pv 0) pe_int (fun _ _=>rfl)) (pa_cons (pe_bltn (v:=.ty "str") rfl T.n_str bt_str rfl) pa_nil))) (fun _=>rfl))) (pw_or1 (pt_cmpR (op_notIn_dicK T.h_SHAPES.d) (pe_ix ix_tup (pv 0) pe_int (fun _ _=>rfl)) (pe_glob (v:=.ref a.a_SHAPES) rfl T.m_SHAPES rfl) (by with_unfolding_all rfl)))))) (pss_one (ps_ret pe_bl)) pss_nil)
      (pss_cons (ps_setA 1 sc_is_shaped.nd (pe_ix (ix_dicK T.h_SHAPES.d) (pe_glob (v:=.ref a.a_SHAPES) rfl T.m_SHAPES rfl) (pe_ix ix_tup (pv 0) pe_int (fun _ _=>rfl)) (fun _ _=>rfl)))
      (pss_cons (ps_if (pt_cmpR op_ne (pe_callB call_len_seq rfl T.n_len bt_len (pa_cons (pv 0) pa_nil)) (pe_op op_add (pe_op op_add pe_int (pe_ix ix_tup (pv 1) pe_int (fun _ _=>rfl))) (pe_ix ix_tup (pv 1) pe_int (fun _ _=>rfl))) (nomark _)) (pss_one (ps_ret pe_bl)) pss_nil)
      (pss_cons (ps_if (pt_not (pt_truth (pe_callB (call_all rfl) rfl T.n_all bt_all (pa_cons (pe_lc0 (osc:=defScope S_is_shaped) (js:=[]) rfl (by show LcOk _ _ "letter" []; exact lco (by decide +kernel)) rfl (pi_tup (pe_callD G_letters_of hr T.f_letters_of (pa_cons (pv 0) pa_nil))) (by show ∀ j∈([]:List Nat),j < 2; decide) (fun cl C s₂ H₂ fp=>(pe_callD G_is_mark hr T.f_is_mark (pa_cons (pv 0) pa_nil)))) pa_nil)) (fun _=>rfl))) (pss_one (ps_ret pe_bl)) pss_nil)
      (pss_one (ps_ret (pe_callB (call_all rfl) rfl T.n_all bt_all (pa_cons (pe_lc0 (osc:=defScope S_is_shaped) (js:=[]) rfl (by show LcOk _ _ "part" []; exact lco (by decide +kernel)) rfl (pi_tup (pe_callD G_parts_of hr T.f_parts_of (pa_cons (pv 0) pa_nil))) (by show ∀ j∈([]:List Nat),j < 2; decide) (fun cl C s₂ H₂ fp=>(pe_callB (call_isinstK (K:=K) rfl) rfl T.n_isinstance bt_isinstance (pa_cons (pv 0) (pa_cons (pe_bltn (v:=.ty "tuple") rfl T.n_tuple bt_tuple rfl) pa_nil))))) pa_nil)))))))),?_⟩
  obtain ⟨vs,c1,c2⟩:=ht.cut
  refine ⟨_,rfl,p,_,rfl,.inr (SqT.of c1),rfl,_,rfl,?_⟩
  cases ei:t.items with
  | nil =>
    rw [ei] at c2
    cases c2
    refine iteT ?_
    have es:shp t = false:=by unfold shp; rw [ei]
    rw [es] at q
    exact q H (Same.refl _)
  | cons t0 r =>
  rw [ei] at c2
  cases c2 with
  | @cons _ v0 _ us h0 c2 =>
  refine iteF ?_
  cases e0:t0.tup with
  | true =>
    obtain ⟨p0,rfl⟩:=h0.tup e0
    obtain ⟨ws,d1,_⟩:=h0.cut
    refine ⟨_,rfl,p,_,0,_,rfl,rfl,SqT.of c1,at0,_,_,_,false,rfl,.tup d1,rfl,_,rfl,iteT ?_⟩
    have es:shp t = false:=by
      unfold shp; rw [ei]
      cases t0 with
      | s x=>cases e0
      | e=>rfl
      | c a b=>rfl
    rw [es] at q
    exact q H (Same.refl _)
  | false =>
  obtain ⟨x,rfl,rfl⟩:=h0.str e0
  refine ⟨_,rfl,p,_,0,_,rfl,rfl,SqT.of c1,at0,_,_,_,true,rfl,.str x,rfl,_,rfl,iteF ?_⟩
  refine ⟨_,rfl,p,_,0,_,rfl,rfl,SqT.of c1,at0,x,rfl,rfl,_,rfl,?_⟩
  cases el:lk x with
  | none =>
    rw [T.h_SHAPES.z x (lk_none el)]
    refine iteT ?_
    have es:shp t = false:=by unfold shp; rw [ei]; show (match lk x with | some (m,n)=>_ | none=>false) = false; rw [el]
    rw [es] at q
    exact q H (Same.refl _)
  | some mn =>
  obtain ⟨m,n⟩:=mn
  obtain ⟨hs,m1,n2⟩:=lk_some el
  obtain ⟨pt,hv,hpt⟩:=T.h_SHAPES.y _ _ _ hs
  have es:shp t = (decide (r.length = m + n) && (r.take m).all isMk && (r.drop m).all Tr.tup):=by
    unfold shp; rw [ei]; show (match lk x with | some (m,n)=>_ | none=>false) = _; rw [el]
  rw [hv]
  refine iteF ?_
  have lr:=pd_len c2
  refine ⟨_,rfl,p,_,0,_,rfl,rfl,SqT.of c1,at0,x,.ref pt,.ref pt,rfl,rfl,hv,rfl,?_⟩
  refine ⟨_,rfl,p,_,rfl,.inr (SqT.of c1),_,rfl,pt,_,0,_,rfl,rfl,hpt H,at0,1,_,rfl,rfl,_,rfl,pt,_,1,_,rfl,rfl,hpt H,at1,_,_,rfl,rfl,rfl,_,rfl,ite2 (fun c=>?_) (fun c=>?_)⟩
  · have nl:r.length≠m + n:=by
      intro z
      have z2:V.int ((V.str x :: us).length:Nat) = V.int (1 + (m:Int) + (n:Int)):=by
        congr 1
        rw [List.length_cons,← lr,z]
        omega
      have c':(!decide (V.int ((V.str x :: us).length:Nat) = V.int (1 + (m:Int) + (n:Int)))) = true:=c
      rw [decide_eq_true z2] at c'
      cases c'
    rw [es,decide_eq_false nl] at q
    exact q H (Same.refl _)
  have zl:r.length = m + n:=by
    have c':¬ (!decide (V.int ((V.str x :: us).length:Nat) = V.int (1 + (m:Int) + (n:Int)))) = true:=c
    cases hd:decide (V.int ((V.str x :: us).length:Nat) = V.int (1 + (m:Int) + (n:Int))) with
    | false=>rw [hd] at c'; exact absurd rfl c'
    | true =>
      have:=of_decide_eq_true hd
      injection this with this
      rw [List.length_cons,← lr] at this
      omega
  rw [decide_eq_true zl,Bool.true_and] at es
  have lu:us.length = m + n:=lr.symm.trans zl
  refine ⟨_,rfl,p,x,m,n,us,rfl,c1,hs,lu,fun b hb=>?_⟩
  have g1:=Same.new hb (.tup (us.take m))
  have pT:=pdTake m c2
  have pD:=pdDrop m c2
  refine ⟨b,rfl,⟨_,SqT.of upd_same⟩,lc_relT (xs:=us.take m) (fun z v=>v = .bl (mkV z)) (SqT.of upd_same) (by rw [List.length_take]; exact Nat.le_of_lt (small1000 (by omega))) ?_ (mono1 mono_markX) ?_⟩
  · intro i z H' hx g
    obtain ⟨tz,_,iz⟩:=pd_ta pT hx
    exact ⟨_,rfl,tz,z,rfl,iz.mono (Tups.of (g1.trans g)),by rw [iz.mk],g⟩
  intro ys H' p2 hr' g hp2
  have e:=pd_map (f:=fun z=>.bl (mkV z)) hr'
  have e2:ys = ((us.take m).map mkV).map V.bl:=by rw [e,List.map_map]; rfl
  subst e2
  have g2:=Same.new hp2 (.lst (((us.take m).map mkV).map V.bl))
  have gg:=(g1.trans g).trans g2
  have ea:((us.take m).map mkV).all id = (r.take m).all isMk:=(all_bl _ _).trans (pd_all (fun _ _ z=>z.mk) pT).symm
  refine ⟨p2,_,rfl,SqL.of upd_same,_,rfl,?_⟩
  rw [ea]
  cases hm:(r.take m).all isMk with
  | false =>
    refine iteT ?_
    rw [es,hm] at q
    exact q _ gg
  | true =>
  refine iteF ?_
  rw [hm,Bool.true_and] at es
  have c1':=gg _ _ c1
  refine ⟨_,rfl,p,x,m,n,us,rfl,c1',hs,lu,fun b3 hb3=>?_⟩
  have g3:=Same.new hb3 (.tup (us.drop m))
  refine ⟨b3,rfl,⟨_,SqT.of upd_same⟩,lc_relT (xs:=us.drop m) (fun z v=>v = .bl (tuV z)) (SqT.of upd_same) (by rw [List.length_drop]; exact Nat.le_of_lt (small1000 (by omega))) ?_ ?_ ?_⟩
  · intro i z H4 hx g4
    obtain ⟨tz,_,iz⟩:=pd_ta pD hx
    cases e5:tz.tup with
    | true =>
      obtain ⟨pz,rfl⟩:=iz.tup e5
      obtain ⟨ws,d1,_⟩:=iz.cut
      have d1':=((gg.trans g3).trans g4) _ _ d1
      exact ⟨_,rfl,_,_,_,true,rfl,.tup d1',rfl,rfl,g4⟩
    | false =>
      obtain ⟨y,rfl,rfl⟩:=iz.str e5
      exact ⟨_,rfl,_,_,_,false,rfl,.str y,rfl,rfl,g4⟩
  · rintro σ' H' Q1 Q2 hQ ⟨v,e,x,T',t,b',h1,h2,h3,h4⟩
    exact ⟨v,e,x,T',t,b',h1,h2,h3,hQ _ _ h4⟩
  · intro ys H4 p4 hr4 g4 hp4
    have e:=pd_map (f:=fun z=>.bl (tuV z)) hr4
    have e2:ys = ((us.drop m).map tuV).map V.bl:=by rw [e,List.map_map]; rfl
    subst e2
    have ea:((us.drop m).map tuV).all id = (r.drop m).all Tr.tup:=(all_bl _ _).trans (pd_all (fun _ _ z=>z.tu) pD).symm
    refine ⟨p4,_,rfl,SqL.of upd_same,?_⟩
    rw [ea,← es]
    exact q _ (((gg.trans g3).trans g4).trans (Same.new hp4 _))
theorem ok_parts_of_allX (T:Txt P w K mg a) (G_parts_of:FnOk P w K mg base CX0 k a.a_parts_of a.d_parts_of p_parts_of spPartsOf):FnOk P w K mg base CX0 (k + 1) a.a_parts_of_all a.d_parts_of_all p_parts_of_all (spPartsAllX K):=by
  refine T.f_parts_of_all.F.ok sc_parts_of_all (fun vs H Q E h=>?_) (fun cdv A outer s H vs Q E hr h=>?_)
  · obtain ⟨l,ss,ps,rfl,_⟩:=h
    rfl
  obtain ⟨l,ss,ps,rfl,hl,hp,hsh,hz,q⟩:=h
  refine ⟨_,(pss_cons (ps_setA 1 sc_parts_of_all.nd (pe_lst pa_nil))
      (pss_cons (ps_for PassesOwn.never rfl (pi_list (pv 0)) (pg_name (i:=2) sc_parts_of_all.nd rfl (Or.inl rfl)) (pss_one (ps_expr (pe_bm PySem.F.plainAttrs_list PySem.F.slot_list_extend PySem.F.type_list_extend mt_extendT (pv 1) (pa_cons (pe_callD G_parts_of hr T.f_parts_of (pa_cons (pv 2) pa_nil)) pa_nil)))))
      (pss_one (ps_ret (pv 1))))),?_⟩
  have pl:=pd_len hp
  refine ⟨by show 0≤sizeLine; decide,fun f hf=>?_⟩
  have g0:=Same.new hf (.lst [])
  refine ⟨_,rfl,l,rfl,⟨_,g0.seq hl⟩,?_⟩
  refine for_list (xs:=ps.map V.ref) (fun i σ H'=>∃ (qs:List Addr) (f1:Option V),Same H H'∧H' f = some (.lst (qs.map V.ref))∧Paired (fun t p=>IsT H' t (.ref p)) ((ss.take i).flatMap pts) qs∧qs.length≤2 * i∧i≤ss.length∧σ = [some (.ref l),some (.ref f),f1])
    ⟨[],_,g0,upd_same,.nil,by simp,Nat.zero_le _,rfl⟩ ?_ ?_ ?_
  · rintro i σ H' _ ⟨qs,f1,g,_⟩
    exact g.seq hl
  · rintro i x σ H' hx ⟨qs,f1,g,hf',hqs,lq,li,rfl⟩
    rw [List.getElem?_map] at hx
    cases ho:ps[i]? with
    | none=>rw [ho] at hx; cases hx
    | some p =>
      rw [ho] at hx
      cases hx
      obtain ⟨sn,hsn,isp0⟩:=pd_ta hp ho
      have isp:=isp0.mono (Tups.of g)
      have hlt:=(List.getElem?_eq_some_iff.mp hsn).1
      obtain ⟨x,m,n,r,ei,el,lr,_,tu,ep⟩:=shp_cut (List.all_eq_true.mp hsh sn (List.mem_of_getElem? hsn))
      obtain ⟨hs,m1,n2⟩:=lk_some el
      obtain ⟨vs,c1,c2⟩:=isp.cut
      rw [ei] at c2
      cases c2 with
      | @cons _ v0 _ us h0 c2 =>
      cases h0
      have lu:=pd_len c2
      obtain ⟨zs,ez,pz⟩:=pd_refs (pdDrop m c2) tu
      have lz:=pd_len pz
      rw [List.length_drop] at lz
      refine ⟨_,rfl,.inl ⟨rfl,_,SqL.of hf'⟩,_,rfl,p,x,m,n,us,rfl,c1,hs,by omega,fun b hb=>?_⟩
      rw [ez]
      have nfb:f≠b:=ne_of_none hf' hb
      have hf2:(upd H' b (.tup (zs.map V.ref))) f = some (.lst (qs.map V.ref)):=by rw [upd_ne nfb]; exact hf'
      refine ⟨f,b,qs.map V.ref,zs.map V.ref,rfl,rfl,hf2,?_,?_,?_⟩
      · exact SqT.of upd_same
      · rw [List.length_map,List.length_map]
        exact Nat.le_of_lt (small1000 (by omega))
      · refine ⟨qs ++ zs,_,(g.trans (Same.new hb _)).over hf _,by rw [upd_same,List.map_append],?_,?_,hlt,rfl⟩
        · rw [take_next hsn,List.flatMap_append,List.flatMap_singleton,ep]
          have t1:Tups H' (upd (upd H' b (.tup (zs.map V.ref))) f (.lst (qs.map V.ref ++ zs.map V.ref))):=(Tups.new hb _).trans (Tups.lst hf2 _)
          exact pd_app (pd_imp (fun _ _ z=>z.mono t1) hqs) (pd_imp (fun _ _ z=>z.mono t1) pz)
        · rw [List.length_append]; omega
  · rintro σ H' ⟨qs,f1,g,hf',hqs,lq,li,rfl⟩
    rw [List.length_map,← pl,List.take_length] at hqs
    exact ⟨_,rfl,q f H' qs g hf hf' hqs⟩
theorem ok_is_sentenceX (T:Txt P w K mg a) (G_is_shaped:FnOk P w K mg base CX0 k a.a_is_shaped a.d_is_shaped p_is_shaped spShapedX) (G_parts_of_all:FnOk P w K mg base CX0 k a.a_parts_of_all a.d_parts_of_all p_parts_of_all (spPartsAllX K)) :
    FnOk P w K mg base CX0 (k + 1) a.a_is_sentence a.d_is_sentence p_is_sentence spIsSenX:=by
  refine T.f_is_sentence.F.ok sc_is_sentence (fun vs H Q E h=>?_) (fun cdv A outer s H vs Q E hr h=>?_)
  · obtain ⟨p,t,rfl,_⟩:=h
    rfl
  obtain ⟨p,t0,rfl,ht,q⟩:=h
  refine ⟨_,(pss_cons (ps_setA 1 sc_is_sentence.nd (pe_lst (pa_cons (pv 0) pa_nil)))
      (pss_cons (ps_setA 2 sc_is_sentence.nd pe_int)
      (pss_cons (ps_setA 3 sc_is_sentence.nd pe_int)
      (pss_cons (ps_while PassesOwn.never (pt_cmpR op_gt (pe_callB call_len_seq rfl T.n_len bt_len (pa_cons (pv 1) pa_nil)) pe_int (nomark _)) (pss_cons (ps_aug (i:=2) sc_is_sentence.nd rfl (Or.inl rfl) pe_int iop_add)
      (pss_cons (ps_aug (i:=3) sc_is_sentence.nd rfl (Or.inl rfl) (pe_callB call_len_seq rfl T.n_len bt_len (pa_cons (pv 1) pa_nil)) iop_add)
      (pss_cons (ps_if (PW.pt (pw_or (pt_cmpR op_gt (pv 2) (pe_glob (v:=.int 24) rfl T.m_MOST_DEEP ⟨_,rfl⟩) (nomark _)) (pw_or1 (pt_cmpR op_gt (pv 3) (pe_glob (v:=.int 200) rfl T.m_MOST_TUPLES ⟨_,rfl⟩) (nomark _))))) (pss_one (ps_ret pe_bl)) pss_nil)
      (pss_cons (ps_if (pt_not (pt_truth (pe_callB (call_all rfl) rfl T.n_all bt_all (pa_cons (pe_lc0 (osc:=defScope S_is_sentence) (js:=[]) rfl (by show LcOk _ _ "part" []; exact lco (by decide +kernel)) rfl (pi_list (pv 1)) (by show ∀ j∈([]:List Nat),j < 4; decide) (fun cl C s₂ H₂ fp=>(pe_callD G_is_shaped hr T.f_is_shaped (pa_cons (pv 0) pa_nil)))) pa_nil)) (fun _=>rfl))) (pss_one (ps_ret pe_bl)) pss_nil)
      (pss_one (ps_setA 1 sc_is_sentence.nd (pe_callD G_parts_of_all hr T.f_parts_of_all (pa_cons (pv 1) pa_nil)))))))))
      (pss_one (ps_ret pe_bl)))))),?_⟩
  refine ⟨_,rfl,by show 1≤sizeLine; decide,fun l0 hl0=>?_⟩
  have g0:=Same.new hl0 (.lst [.ref p])
  refine ⟨fun m σ H'=>∃ (ss:List Tr) (ps:List Addr) (l:Addr) (d t:Nat),d + m = 24∧Same H H'∧H' l = some (.lst (ps.map V.ref))∧Paired (fun t p=>IsT H' t (.ref p)) ss ps∧lev m t ss = lev 24 0 [t0]∧σ = [some (.ref p),some (.ref l),some (.int d),some (.int t)],
    ⟨24,[t0],[p],l0,0,0,rfl,g0,upd_same,.cons (ht.mono (Tups.of g0)) .nil,rfl,rfl⟩,?_⟩
  rintro m σ H' ⟨ss,ps,l,d,t,hdm,g,hl,hp,hlv,rfl⟩
  have lp:=pd_len hp
  have le:(ps.map V.ref).length = ss.length:=by rw [List.length_map]; exact lp.symm
  rw [← hlv] at q
  refine ⟨_,rfl,l,_,rfl,.inl (SqL.of hl),_,_,rfl,rfl,_,rfl,ite2 (fun c=>?_) (fun c=>?_)⟩
  · have c':0 < ss.length:=by have:=of_decide_eq_true c; rw [le] at this; omega
    have ne:ss.isEmpty = false:=by cases ss with | nil=>exact absurd c' (Nat.lt_irrefl _) | cons _ _=>rfl
    refine ⟨_,fun σ' H2 h=>h,?_⟩
    refine ⟨_,rfl,(d:Int),1,rfl,rfl,?_⟩
    refine ⟨_,rfl,_,rfl,l,_,rfl,.inl (SqL.of hl),(t:Int),_,rfl,rfl,?_⟩
    refine ⟨_,rfl,_,_,rfl,rfl,_,rfl,ite2 (fun c2=>?_) (fun c2=>?_)⟩
    · have:=of_decide_eq_true c2
      have m0:m = 0:=by omega
      subst m0
      have z:lev 0 t ss = false:=ne
      rw [z] at q
      exact q _ g
    have d24:¬ (24:Int) < (d:Int) + 1:=fun z=>c2 (decide_eq_true z)
    obtain ⟨m,rfl⟩:∃ m',m = m' + 1:=⟨m - 1,by omega⟩
    have ev:lev (m + 1) t ss = (decide (t + ss.length≤200) && ss.all shp && lev m (t + ss.length) (ss.flatMap pts)):=by
      show (ss.isEmpty || _) = _
      rw [ne,Bool.false_or]
    refine ⟨_,rfl,_,_,rfl,rfl,_,rfl,ite2 (fun c3=>?_) (fun c3=>?_)⟩
    · have:=of_decide_eq_true c3
      rw [le] at this
      rw [ev,decide_eq_false (by omega)] at q
      exact q _ g
    have t200:t + ss.length≤200:=by
      have z:¬ (200:Int) < (t:Int) + ((ps.map V.ref).length:Nat):=fun z=>c3 (decide_eq_true z)
      rw [le] at z
      omega
    rw [decide_eq_true t200,Bool.true_and] at ev
    refine ⟨_,rfl,l,rfl,⟨_,SqL.of hl⟩,lc_list (xs:=ps.map V.ref) (fun i ys H2=>Same H' H2∧ys = ((ss.take i).map shp).map V.bl) ⟨Same.refl _,rfl⟩ (by rw [le]; exact Nat.le_of_lt (small1000 (by omega))) ?_ ?_ (fun _ _ _ _ h q=>h _ _ q) (mono1 mono_shapedX) ?_⟩
    · rintro i ys H2 hi ⟨g2,rfl⟩
      rw [List.length_map,List.length_map,List.length_take]
      exact ⟨g2.seq (SqL.of hl),by omega⟩
    · rintro i x ys H2 hx ⟨g2,rfl⟩
      rw [List.getElem?_map] at hx
      cases ho:ps[i]? with
      | none=>rw [ho] at hx; cases hx
      | some y =>
        rw [ho] at hx
        cases hx
        obtain ⟨sy,hsy,iy⟩:=pd_ta hp ho
        refine ⟨_,rfl,y,sy,rfl,iy.mono (Tups.of g2),fun H3 g3=>⟨g2.trans g3,?_⟩⟩
        rw [take_next hsy,List.map_append,List.map_append]
        rfl
    rintro ys H2 p2 ⟨g2,rfl⟩ hp2
    have g3:=Same.new hp2 (.lst (((ss.take (ps.map V.ref).length).map shp).map V.bl))
    have ea:((ss.take (ps.map V.ref).length).map shp).all id = ss.all shp:=by rw [le,List.take_length,List.all_map]; rfl
    have gg:=g2.trans g3
    refine ⟨p2,_,rfl,SqL.of upd_same,_,rfl,?_⟩
    rw [ea]
    cases hs:ss.all shp with
    | false =>
      refine iteT ?_
      rw [ev,hs] at q
      exact q _ (g.trans gg)
    | true =>
    refine iteF ?_
    rw [hs,Bool.true_and] at ev
    refine ⟨_,rfl,l,ss,ps,rfl,gg.seq (SqL.of hl),pd_imp (fun _ _ z=>z.mono (Tups.of gg)) hp,hs,by omega,fun l' H4 ps' g4 hn hl' hp'=>?_⟩
    refine ⟨m,Nat.lt_succ_self _,ss.flatMap pts,ps',l',d + 1,t + (ps.map V.ref).length,by omega,(g.trans gg).trans g4,hl',hp',?_,rfl⟩
    rw [le,← ev]
    exact hlv
  · have e0:ss = []:=by
      have z:¬ (0:Int) < ((ps.map V.ref).length:Nat):=fun z=>c (decide_eq_true z)
      rw [le] at z
      exact List.length_eq_zero_iff.mp (by omega)
    subst e0
    have z:lev m t [] = true:=by cases m <;> rfl
    rw [z] at q
    exact q _ g
end
end K05
namespace K05
open PySem L2 Sen
section
variable {P:Program} {w:World} {K:PySem.W.Frag} {mg:Str→Option Value} {base:Heap} {a:Ad} {k:Nat}
theorem okR_must_be_order (T:Txt P w K mg a) (G_is_order:FnOk P w K mg base CX0 k a.a_is_order a.d_is_order p_is_order (spIsOrder K)):FnOk P w K mg base (CXE P w) (k + 1) a.a_must_be_order a.d_must_be_order p_must_be_order (spOrderR a.a_NoOrder K):=by
  refine T.f_must_be_order.F.okE sc_must_be_order (fun vs H Q E h=>?_) (fun cdv A outer s H vs Q E hr h=>?_)
  · obtain ⟨l,os,rfl,_⟩:=h
    rfl
  obtain ⟨l,os,rfl,h1,h2,h3,q⟩:=h
  have G_is_order:=G_is_order.lift (CX:=CXE P w)
  refine ⟨_,(pss_one (ps_if (pt_not (pt_truth (pe_callDX passE G_is_order hr T.f_is_order (pa_cons (pv 0) pa_nil)) (fun _=>rfl))) (pss_one (ps_raise rfl rfl T.xc_NoOrder.own rfl T.m_NoOrder raisesE (pa_cons pe_str pa_nil))) pss_nil)),?_⟩
  refine ⟨_,rfl,l,os,rfl,h1,h2,fun H' g=>⟨_,rfl,?_⟩⟩
  rw [h3]
  exact iteT ⟨by show 1≤sizeLine; decide,q H' g⟩
theorem okR_must_be_sentence (T:Txt P w K mg a) (G_is_sentence:FnOk P w K mg base CX0 k a.a_is_sentence a.d_is_sentence p_is_sentence spIsSenX):FnOk P w K mg base (CXE P w) (k + 1) a.a_must_be_sentence a.d_must_be_sentence p_must_be_sentence (spSenR a.a_NoSentence):=by
  refine T.f_must_be_sentence.F.okE sc_must_be_sentence (fun vs H Q E h=>?_) (fun cdv A outer s H vs Q E hr h=>?_)
  · obtain ⟨p,t,rfl,_⟩:=h
    rfl
  obtain ⟨p,t,rfl,h1,h3,q⟩:=h
  have G_is_sentence:=G_is_sentence.lift (CX:=CXE P w)
  refine ⟨_,(pss_one (ps_if (pt_not (pt_truth (pe_callDX passE G_is_sentence hr T.f_is_sentence (pa_cons (pv 0) pa_nil)) (fun _=>rfl))) (pss_one (ps_raise rfl rfl T.xc_NoSentence.own rfl T.m_NoSentence raisesE (pa_cons pe_str pa_nil))) pss_nil)),?_⟩
  refine ⟨_,rfl,p,t,rfl,h1,fun H' g=>⟨_,rfl,?_⟩⟩
  rw [h3]
  exact iteT ⟨by show 1≤sizeLine; decide,q H' g⟩
theorem okR_must_have_mark (T:Txt P w K mg a):FnOk P w K mg base (CXE P w) (k + 1) a.a_must_have_mark a.d_must_have_mark p_must_have_mark (spMarkR a.a_NoMark K):=by
  refine T.f_must_have_mark.F.okE sc_must_have_mark (fun vs H Q E h=>?_) (fun cdv A outer s H vs Q E hr h=>?_)
  · obtain ⟨l,x,os,rfl,_⟩:=h
    rfl
  obtain ⟨l,x,os,rfl,hO,hx,hp,q⟩:=h
  refine ⟨_,(pss_one (ps_if (pt_cmpR op_notIn_seq (pv 1) (pv 0) (by with_unfolding_all rfl)) (pss_one (ps_raise rfl rfl T.xc_NoMark.own rfl T.m_NoMark raisesE (pa_cons (pe_fst (pfs_cons (pf_repr (pv 1)) (pfs_cons pf_str pfs_nil))) pa_nil))) pss_nil)),?_⟩
  refine ⟨_,rfl,_,rfl,l,_,rfl,.inl hO,rfl,flat_strs _,_,rfl,?_⟩
  have e:(if true = true then !inV (.str x) (os.map V.str) else inV (.str x) (os.map V.str)) = true:=by
    rw [if_pos rfl,inV_strs,decide_eq_false hx]; rfl
  rw [e]
  exact iteT ⟨_,rfl,x,rfl,hp,fun y=>⟨by show 1≤sizeLine; decide,q⟩⟩
theorem okR_must_have_marks (T:Txt P w K mg a) (G_letters_in:FnOk P w K mg base CX0 k a.a_letters_in a.d_letters_in p_letters_in spLettersIn) (G_must_have_mark:FnOk P w K mg base (CXE P w) k a.a_must_have_mark a.d_must_have_mark p_must_have_mark (spMarkE a.a_NoMark K)):FnOk P w K mg base (CXE P w) (k + 1) a.a_must_have_marks a.d_must_have_marks p_must_have_marks (spMarksR a.a_NoMark K):=by
  refine T.f_must_have_marks.F.okE sc_must_have_marks (fun vs H Q E h=>?_) (fun cdv A outer s H vs Q E hr h=>?_)
  · obtain ⟨l,p,os,s,rfl,_⟩:=h
    rfl
  obtain ⟨l,p,os,sn,rfl,hO,isp,hc,hin,hrp,q⟩:=h
  have G_letters_in:=G_letters_in.lift (CX:=CXE P w)
  refine ⟨_,(pss_one (ps_for PassesOwn.leaving rfl (pi_list (pe_callDX passE G_letters_in hr T.f_letters_in (pa_cons (pv 1) pa_nil))) (pg_name (i:=2) sc_must_have_marks.nd rfl (Or.inl rfl)) (pss_one (ps_expr (pe_callDX passE G_must_have_mark hr T.f_must_have_mark (pa_cons (pv 0) (pa_cons (pv 2) pa_nil))))))),?_⟩
  refine ⟨_,rfl,p,sn,rfl,isp,hc,fun f H1 xs g1 hn hl hmem hxl=>?_⟩
  refine ⟨f,rfl,⟨_,SqL.of hl⟩,?_⟩
  refine for_list (xs:=xs.map V.str) (fun i σ H'=>(∀ y∈xs.take i,y∈os)∧∃ f1:Option V,H' = H1∧σ = [some (.ref l),some (.ref p),f1]) ⟨fun y hy=>absurd hy (by simp),_,rfl,rfl⟩ ?_ ?_ ?_
  · rintro i σ H' _ ⟨_,f1,rfl,_⟩
    exact SqL.of hl
  · rintro i x σ H' hx ⟨ih,f1,rfl,rfl⟩
    rw [List.getElem?_map] at hx
    cases ho:xs[i]? with
    | none=>rw [ho] at hx; cases hx
    | some y =>
      rw [ho] at hx
      cases hx
      by_cases hy:y∈os
      · refine ⟨_,rfl,_,rfl,.inl ⟨l,y,os,rfl,g1.seq hO,hy,fun z hz=>?_,_,rfl,rfl⟩⟩
        rw [take_next ho] at hz
        rcases List.mem_append.mp hz with hz | hz
        · exact ih z hz
        · rw [List.mem_singleton.mp hz]; exact hy
      · exact ⟨_,rfl,_,rfl,.inr ⟨l,y,os,rfl,g1.seq hO,hy,hrp y ((hmem y).mp (List.mem_of_getElem? ho)),q _ g1⟩⟩
  · rintro σ H' ⟨ih,f1,rfl,rfl⟩
    rw [List.length_map,List.take_length] at ih
    exact absurd ((Sn.inO_iff sn).mpr fun x hx=>ih x ((hmem x).mpr hx)) hin
theorem okR_must_be_row (T:Txt P w K mg a) (G_is_row:FnOk P w K mg base CX0 k a.a_is_row a.d_is_row p_is_row (spIsRow K)):FnOk P w K mg base (CXE P w) (k + 1) a.a_must_be_row a.d_must_be_row p_must_be_row (spRowR a.a_NoRow K):=by
  refine T.f_must_be_row.F.okE sc_must_be_row (fun vs H Q E h=>?_) (fun cdv A outer s H vs Q E hr h=>?_)
  · obtain ⟨l,r,xs,ns,rfl,_⟩:=h
    rfl
  obtain ⟨l,r,xs,ns,rfl,h1,h2,h3,h4,q⟩:=h
  have G_is_row:=G_is_row.lift (CX:=CXE P w)
  refine ⟨_,(pss_one (ps_if (pt_not (pt_truth (pe_callDX passE G_is_row hr T.f_is_row (pa_cons (pv 0) (pa_cons (pv 1) pa_nil))) (fun _=>rfl))) (pss_one (ps_raise rfl rfl T.xc_NoRow.own rfl T.m_NoRow raisesE (pa_cons pe_str pa_nil))) pss_nil)),?_⟩
  refine ⟨_,rfl,_,rfl,l,r,xs,ns,rfl,h1,h2,h3,fun H' g=>⟨_,rfl,?_⟩⟩
  rw [h4]
  exact iteT ⟨by show 1≤sizeLine; decide,q H' g⟩
theorem okR_words (T:Txt P w K mg a) (G_must_be_sentence:FnOk P w K mg base (CXE P w) k a.a_must_be_sentence a.d_must_be_sentence p_must_be_sentence (spSenR a.a_NoSentence)):FnOk P w K mg base (CXE P w) (k + 1) a.a_words a.d_words p_words (spSenR a.a_NoSentence):=by
  refine T.f_words.F.okE sc_words (fun vs H Q E h=>?_) (fun cdv A outer s H vs Q E hr h=>?_)
  · obtain ⟨p,t,rfl,_⟩:=h
    rfl
  obtain ⟨p,t,rfl,h1,h3,q⟩:=h
  refine ⟨_,(pss_cons (ps_expr (pe_callDX passE G_must_be_sentence hr T.f_must_be_sentence (pa_cons (pv 0) pa_nil)))
      pss_never),?_⟩
  exact ⟨_,rfl,p,t,rfl,h1,h3,q⟩
theorem okR_marks_of (T:Txt P w K mg a) (G_must_be_sentence:FnOk P w K mg base (CXE P w) k a.a_must_be_sentence a.d_must_be_sentence p_must_be_sentence (spSenR a.a_NoSentence)):FnOk P w K mg base (CXE P w) (k + 1) a.a_marks_of a.d_marks_of p_marks_of (spSenR a.a_NoSentence):=by
  refine T.f_marks_of.F.okE sc_marks_of (fun vs H Q E h=>?_) (fun cdv A outer s H vs Q E hr h=>?_)
  · obtain ⟨p,t,rfl,_⟩:=h
    rfl
  obtain ⟨p,t,rfl,h1,h3,q⟩:=h
  refine ⟨_,(pss_cons (ps_expr (pe_callDX passE G_must_be_sentence hr T.f_must_be_sentence (pa_cons (pv 0) pa_nil)))
      pss_never),?_⟩
  exact ⟨_,rfl,p,t,rfl,h1,h3,q⟩
theorem okR_shown (T:Txt P w K mg a) (G_must_be_sentence:FnOk P w K mg base (CXE P w) k a.a_must_be_sentence a.d_must_be_sentence p_must_be_sentence (spSenR a.a_NoSentence)):FnOk P w K mg base (CXE P w) (k + 1) a.a_shown a.d_shown p_shown (spSenR a.a_NoSentence):=by
  refine T.f_shown.F.okE sc_shown (fun vs H Q E h=>?_) (fun cdv A outer s H vs Q E hr h=>?_)
  · obtain ⟨p,t,rfl,_⟩:=h
    rfl
  obtain ⟨p,t,rfl,h1,h3,q⟩:=h
  refine ⟨_,(pss_cons (ps_expr (pe_callDX passE G_must_be_sentence hr T.f_must_be_sentence (pa_cons (pv 0) pa_nil)))
      pss_never),?_⟩
  exact ⟨_,rfl,p,t,rfl,h1,h3,q⟩
theorem okR_worth (T:Txt P w K mg a) (G_must_be_order:FnOk P w K mg base (CXE P w) k a.a_must_be_order a.d_must_be_order p_must_be_order (spOrderE a.a_NoOrder K)) (G_must_be_sentence:FnOk P w K mg base (CXE P w) k a.a_must_be_sentence a.d_must_be_sentence p_must_be_sentence (spSenE a.a_NoSentence))
    (G_must_have_marks:FnOk P w K mg base (CXE P w) k a.a_must_have_marks a.d_must_have_marks p_must_have_marks (spMarksE a.a_NoMark K)) (G_must_be_row:FnOk P w K mg base (CXE P w) k a.a_must_be_row a.d_must_be_row p_must_be_row (spRowR a.a_NoRow K)):FnOk P w K mg base (CXE P w) (k + 1) a.a_worth a.d_worth p_worth (spWorthX a.a_NoOrder a.a_NoSentence a.a_NoMark a.a_NoRow K):=by
  refine T.f_worth.F.okE sc_worth (fun vs H Q E h=>?_) (fun cdv A outer s H vs Q E hr h=>?_)
  · obtain ⟨p,l,r,os,ns,rfl,_⟩:=h
    rfl
  obtain ⟨p,l,r,os,ns,rfl,hO,h100,hR,h1000,h⟩:=h
  refine ⟨_,(pss_cons (ps_expr (pe_callDX passE G_must_be_order hr T.f_must_be_order (pa_cons (pv 1) pa_nil)))
      (pss_cons (ps_expr (pe_callDX passE G_must_be_sentence hr T.f_must_be_sentence (pa_cons (pv 0) pa_nil)))
      (pss_cons (ps_expr (pe_callDX passE G_must_have_marks hr T.f_must_have_marks (pa_cons (pv 1) (pa_cons (pv 0) pa_nil))))
      (pss_cons (ps_expr (pe_callDX passE G_must_be_row hr T.f_must_be_row (pa_cons (pv 1) (pa_cons (pv 2) pa_nil))))
      pss_never)))),?_⟩
  have hlen:(os.map V.str).length = os.length:=List.length_map _
  rcases h with ⟨hb,q⟩ | ⟨ho,t,h1,h2,q⟩ | ⟨ho,sn,isp,hlt,hc,hd,h⟩
  · exact ⟨_,rfl,.inr ⟨l,os,rfl,hO,h100,hb,q⟩⟩
  · exact ⟨_,rfl,.inl ⟨l,os,rfl,hO,ho,fun H1 g1=>⟨_,rfl,.inr ⟨p,t,rfl,h1.mono (Tups.of g1),h2,fun H' g=>q _ (g1.trans g)⟩⟩⟩⟩
  refine ⟨_,rfl,.inl ⟨l,os,rfl,hO,ho,fun H1 g1=>⟨_,rfl,.inl ⟨p,sn,rfl,isp.mono (Tups.of g1),hlt,hc,hd,fun H2 g2=>?_⟩⟩⟩⟩
  have g12:=g1.trans g2
  rcases h with ⟨hin,hrp,q⟩ | ⟨hin,hrw,q⟩
  · exact ⟨_,rfl,_,rfl,.inr ⟨l,p,os,sn,rfl,g12.seq hO,isp.mono (Tups.of g12),by omega,hin,hrp,fun H' g=>q _ (g12.trans g)⟩⟩
  · refine ⟨_,rfl,_,rfl,.inl ⟨l,p,os,sn,rfl,g12.seq hO,isp.mono (Tups.of g12),by omega,hin,fun H3 g3=>?_⟩⟩
    have g13:=g12.trans g3
    exact ⟨_,rfl,_,rfl,l,r,_,ns,rfl,g13.seq hO,g13.seq hR,h1000,by rw [hlen]; exact hrw,fun H' g=>q _ (g13.trans g)⟩
theorem okR_Book_init (T:Txt P w K mg a) (G_must_be_order:FnOk P w K mg base (CXE P w) k a.a_must_be_order a.d_must_be_order p_must_be_order (spOrderR a.a_NoOrder K)):FnOk P w K mg base (CXE P w) (k + 1) a.a_Book_init a.d_Book_init p_Book_init (spInitR a.a_NoOrder K):=by
  refine T.f_Book_init.F.okE sc_Book_init (fun vs H Q E h=>?_) (fun cdv A outer s H vs Q E hr h=>?_)
  · obtain ⟨b,l,os,rfl,_⟩:=h
    rfl
  obtain ⟨b,l,os,rfl,hO,h100,hb,q⟩:=h
  refine ⟨_,(pss_cons (ps_expr (pe_callDX passE G_must_be_order hr T.f_must_be_order (pa_cons (pv 1) pa_nil)))
      pss_never),?_⟩
  exact ⟨_,rfl,l,os,rfl,hO,h100,hb,q⟩
theorem okR_Book_enter (T:Txt P w K mg a) (G_must_be_sentence:FnOk P w K mg base (CXE P w) k a.a_must_be_sentence a.d_must_be_sentence p_must_be_sentence (spSenE a.a_NoSentence))
    (G_must_have_marks:FnOk P w K mg base (CXE P w) k a.a_must_have_marks a.d_must_have_marks p_must_have_marks (spMarksR a.a_NoMark K)):FnOk P w K mg base (CXE P w) (k + 1) a.a_Book_enter a.d_Book_enter p_Book_enter (spEnterR a.a_Book a.a_NoSentence a.a_NoMark):=by
  refine T.f_Book_enter.F.okE sc_Book_enter (fun vs H Q E h=>?_) (fun cdv A outer s H vs Q E hr h=>?_)
  · obtain ⟨b,p,os,rs,F,rfl,_⟩:=h
    rfl
  obtain ⟨b,p,os,rs,F,rfl,hB,h⟩:=h
  refine ⟨_,(pss_cons (ps_expr (pe_callDX passE G_must_be_sentence hr T.f_must_be_sentence (pa_cons (pv 1) pa_nil)))
      (pss_cons (ps_expr (pe_callDX passE G_must_have_marks hr T.f_must_have_marks (pa_cons (pe_fld (pv 0) rfl) (pa_cons (pv 1) pa_nil))))
      pss_never)),?_⟩
  rcases h with ⟨t,h1,h2,q⟩ | ⟨sn,isp,hl,hc,hd,hin,hrp,q⟩
  · exact ⟨_,rfl,.inr ⟨p,t,rfl,h1,h2,q⟩⟩
  refine ⟨_,rfl,.inl ⟨p,sn,rfl,isp,hl,hc,hd,fun H1 g1=>?_⟩⟩
  have hB1:=(bookLike a.a_Book).same hB g1
  obtain ⟨dx,ml,_,_,_,_,_,_,h1⟩:=id hB1
  exact ⟨_,rfl,b,a.a_Book,dx,_,_,rfl,h1.hb,T.c_Book,T.na_Book_marks,rfl,_,rfl,ml,p,os,sn,rfl,SqL.of h1.hm,isp.mono (Tups.of g1),by omega,hin,hrp,fun H' g=>q _ (g1.trans g)⟩
end
end K05
namespace K05
open PySem L2 Sen
section
variable {P:Program} {w:World} {K:PySem.W.Frag} {mg:Str→Option Value} {base:Heap} {a:Ad} {k:Nat}
theorem ok_written_step {d:Nat} (T:Txt P w K mg a) (G_letters_of:FnOk P w K mg base CX0 k a.a_letters_of a.d_letters_of p_letters_of spLettersOf) (G_parts_of:FnOk P w K mg base CX0 k a.a_parts_of a.d_parts_of p_parts_of spPartsOf)
    (G_written:FnOk P w K mg base CX0 k a.a_written a.d_written p_written (spWritten d)):FnOk P w K mg base CX0 (k + 1) a.a_written a.d_written p_written (spWritten (d + 1)):=by
  refine T.f_written.F.ok sc_written (fun vs H Q E h=>?_) (fun cdv A outer s H vs Q E hr h=>?_)
  · obtain ⟨p,sn,rfl,_⟩:=h
    rfl
  obtain ⟨p,sn,rfl,isp,hin,hc,hd,q⟩:=h
  refine ⟨_,(pss_cons (ps_if (pt_cmpR op_eq (pe_ix ix_tup (pv 0) pe_int (fun _ _=>rfl)) pe_str (nomark _)) (pss_one (ps_ret (pe_ix ix_tup (pv 0) pe_int (fun _ _=>rfl)))) pss_nil)
      (pss_cons (ps_setA 1 sc_written.nd (pe_bm PySem.F.plainAttrs_str PySem.F.slot_str_join PySem.F.type_str_join (mt_joinS (K:=K) rfl) pe_str (pa_cons (pe_op (op_addT (K:=K) rfl) (pe_tup (pa_cons (pe_ix ix_tup (pv 0) pe_int (fun _ _=>rfl)) pa_nil)) (pe_callD G_letters_of hr T.f_letters_of (pa_cons (pv 0) pa_nil))) pa_nil)))
      (pss_cons (ps_setLC (tt:=tYes) (i:=2) sc_written.nd rfl (Or.inl rfl) (.inl rfl) (osc:=defScope S_written) (js:=[]) rfl (by show LcOk _ _ "part" []; exact lco (by decide +kernel)) rfl (pi_tup (pe_callD G_parts_of hr T.f_parts_of (pa_cons (pv 0) pa_nil))) (by show ∀ j∈([]:List Nat),j < 4; decide) (fun cl C s₂ H₂ fp pins s' σ' H' Q I h=>wpAny_pure ⟨H',I,h⟩) (fun cl C s₂ H₂ fp=>(pe_callD G_written hr T.f_written (pa_cons (pv 0) pa_nil))) rfl)
      (pss_cons (ps_if (pt_cmpR op_eq (pe_callB call_len_seq rfl T.n_len bt_len (pa_cons (pv 2) pa_nil)) pe_int (nomark _)) (pss_one (ps_ret (pv 1))) pss_nil)
      (pss_cons (ps_setA 3 sc_written.nd (pe_bm PySem.F.plainAttrs_str PySem.F.slot_str_join PySem.F.type_str_join (mt_joinS (K:=K) rfl) pe_str (pa_cons (pv 2) pa_nil)))
      (pss_one (ps_ret (pe_fstG (pxs_cons3 (px_text3 (pv 1)) (pxs_cons3 px_str3 (pxs_cons3 (px_text3 (pv 3)) (pxs_cons3 px_str3 pxs_nil3)))))))))))),?_⟩
  obtain ⟨zs,c1,c2,c3,c4,c5⟩:=sen_cut isp
  have lz:=pd_len c2
  have lp2:=Sn.parts_le sn
  have hcp:sn.count = 1 + cnt sn.parts:=Sn.count_parts sn
  by_cases hm:∃ x,sn = .mk x
  · obtain ⟨x,rfl⟩:=hm
    have isp':H p = some (.tup [.str "mark", .str x]):=isp
    refine ⟨_,rfl,p,_,0,_,rfl,rfl,SqT.of isp',at0,rfl,_,rfl,ite2 (fun _=>?_) (fun c=>absurd (decide_eq_true rfl) c)⟩
    exact ⟨_,rfl,p,_,1,_,rfl,rfl,SqT.of isp',at1,q _ (Same.refl _)⟩
  have nm:=word_mark fun x hx=>hm ⟨x,hx⟩
  refine ⟨_,rfl,p,_,0,_,rfl,rfl,SqT.of c1,at0,rfl,_,rfl,ite2 (fun c=>absurd (of_decide_eq_true c) (fun z=>nm (by injection z))) (fun _=>?_)⟩
  have hle:=Sn.inO_letters sn hin
  have hh:=hd_len sn hle
  refine ⟨rfl,_,rfl,p,_,0,_,rfl,rfl,SqT.of c1,at0,by show 1≤sizeLine; decide,fun p1 hp1=>?_⟩
  have g1:=Same.new hp1 (.tup [.str sn.word])
  refine ⟨_,rfl,p,sn.word,sn.letters.length,sn.parts.length,_,rfl,g1 _ _ c1,shape_in sn,c3,fun b hb=>?_⟩
  rw [c4]
  have g1b:=Same.new hb (.tup (sn.letters.map V.str))
  have e1:upd (upd H p1 (.tup [.str sn.word])) b (.tup (sn.letters.map V.str)) p1 = some (.tup [.str sn.word]):=g1b _ _ upd_same
  have e2:upd (upd H p1 (.tup [.str sn.word])) b (.tup (sn.letters.map V.str)) b = some (.tup (sn.letters.map V.str)):=upd_same
  have g2:=g1.trans g1b
  generalize upd (upd H p1 (.tup [.str sn.word])) b (.tup (sn.letters.map V.str)) = H2 at g2 e1 e2 ⊢
  clear g1b g1 hb
  have ls:=Sn.letters_le sn
  refine ⟨p1,b,[.str sn.word],sn.letters.map V.str,rfl,rfl,SqT.of e1,SqT.of e2,List.cons_ne_nil _ _,by rw [List.length_map]; exact Nat.le_of_lt (small1000 (show 1 + sn.letters.length≤1000 by omega)),fun e=>⟨" ", p1,sn.word :: sn.letters,rfl,rfl,.inr (by rw [List.map_eq_nil_iff.mp e]; exact SqT.of e1),by omega,?_⟩,fun _ l hl=>⟨" ", l,sn.word :: sn.letters,rfl,rfl,.inr (SqT.of upd_same),by omega,?_⟩⟩
  rotate_left
  replace g2:=g2.trans (Same.new hl (.tup ([.str sn.word] ++ sn.letters.map V.str)))
  clear e1 e2
  generalize upd H2 l (.tup ([.str sn.word] ++ sn.letters.map V.str)) = H2 at g2 ⊢
  all_goals
    refine ⟨_,rfl,p,sn.word,sn.letters.length,sn.parts.length,_,rfl,g2 _ _ c1,shape_in sn,c3,fun b0 hb0=>?_⟩
    rw [c5]
    have g3:=g2.trans (Same.new hb0 (.tup (zs.map V.ref)))
    refine ⟨b0,rfl,⟨_,SqT.of upd_same⟩,lc_tup (xs:=zs.map V.ref) (fun i ys H'=>Same (upd H2 b0 (.tup (zs.map V.ref))) H'∧ys = ((sn.parts.take i).map wrt).map V.str) ⟨Same.refl _,rfl⟩ (by rw [List.length_map]; exact Nat.le_of_lt (small1000 (by omega))) ?_ ?_ (fun _ _ _ _ h q=>h _ _ q) (mono1 (mono_written d)) ?_⟩
    · rintro i ys H' hi ⟨g,rfl⟩
      rw [List.length_map,List.length_map,List.length_take]
      exact ⟨g.seqT (SqT.of upd_same),by omega⟩
    · rintro i x ys H' hx ⟨g,rfl⟩
      rw [List.getElem?_map] at hx
      cases ho:zs[i]? with
      | none=>rw [ho] at hx; cases hx
      | some y =>
        rw [ho] at hx
        cases hx
        obtain ⟨t,ht,it⟩:=pd_ta c2 ho
        have htm:=List.mem_of_getElem? ht
        have dp:=Sn.depth_parts sn t htm
        have ct:=part_count htm
        refine ⟨_,rfl,y,t,rfl,it.mono (Tups.of (g3.trans g)),Sn.inO_parts sn hin t htm,by omega,by omega,fun H4 g4=>⟨g.trans g4,?_⟩⟩
        rw [take_next ht,List.map_append,List.map_append]
        rfl
    rintro ys H' p2 ⟨g,rfl⟩ hp2
    have el:(zs.map V.ref).length = sn.parts.length:=by rw [List.length_map]; exact lz.symm
    rw [el,List.take_length]
    have g5:=(g3.trans g).trans (Same.new hp2 (.lst ((sn.parts.map wrt).map V.str)))
    refine ⟨_,rfl,p2,_,rfl,.inl (SqL.of upd_same),rfl,_,rfl,ite2 (fun c=>?_) (fun c=>?_)⟩
    · have c':=of_decide_eq_true c
      injection c' with c'
      rw [List.length_map,List.length_map] at c'
      have e0:wrt sn = Str.join " " (sn.word :: sn.letters):=by
        cases sn with
        | c0 y=>rfl
        | mk x=>exact absurd ⟨x,rfl⟩ hm
        | nt s=>exact absurd c' (by show ¬ ((1:Nat):Int) = 0; decide)
        | b2 o s t=>exact absurd c' (by show ¬ ((2:Nat):Int) = 0; decide)
        | q1 o x s=>exact absurd c' (by show ¬ ((1:Nat):Int) = 0; decide)
      rw [e0] at q
      exact ⟨_,rfl,q _ g5⟩
    · have ne:sn.parts≠[]:=fun z=>c (decide_eq_true (by rw [z]; rfl))
      have jp:=jl_parts (ss:=sn.parts) (fun t ht=>Sn.inO_parts sn hin t ht)
      have jn:=jl_len ", " (sn.parts.map wrt)
      refine ⟨rfl,_,rfl,", ", p2,sn.parts.map wrt,rfl,rfl,.inl (SqL.of upd_same),by omega,?_⟩
      rw [wrt_gen ne] at q
      exact ⟨_,rfl,_,rfl,by omega,_,rfl,_,rfl,by omega,q _ g5⟩
end
end K05
namespace K05
open PySem L2 Sen
section
variable {P:Program} {w:World} {K:PySem.W.Frag} {mg:Str→Option Value} {base:Heap} {a:Ad} {k:Nat}
theorem ok_written (T:Txt P w K mg a) (G_letters_of:FnOk P w K mg base CX0 k a.a_letters_of a.d_letters_of p_letters_of spLettersOf) (G_parts_of:FnOk P w K mg base CX0 k a.a_parts_of a.d_parts_of p_parts_of spPartsOf):∀ d:Nat,FnOk P w K mg base CX0 (k + d) a.a_written a.d_written p_written (spWritten d)
  | 0=>by
    refine ⟨fun vs H Q E h=>?_,fun A outer s H args us vs Q E _ _ _ _ h=>?_⟩
    · obtain ⟨p,sn,rfl,_⟩:=h
      rfl
    · obtain ⟨p,sn,_,_,_,_,hd,_⟩:=h
      have:=Sn.depth_pos sn
      omega
  | d + 1=>ok_written_step T (G_letters_of.mono (Nat.le_add_right _ _)) (G_parts_of.mono (Nat.le_add_right _ _)) (ok_written T G_letters_of G_parts_of d)
theorem ok_shown (T:Txt P w K mg a) (G_must_be_sentence:FnOk P w K mg base CX0 k a.a_must_be_sentence a.d_must_be_sentence p_must_be_sentence spMustSen) (G_written:FnOk P w K mg base CX0 k a.a_written a.d_written p_written (spWritten 24)):FnOk P w K mg base CX0 (k + 1) a.a_shown a.d_shown p_shown (spWritten 24):=by
  refine T.f_shown.F.ok sc_shown (fun vs H Q E h=>?_) (fun cdv A outer s H vs Q E hr h=>?_)
  · obtain ⟨p,sn,rfl,_⟩:=h
    rfl
  obtain ⟨p,sn,rfl,isp,hin,hc,hd,q⟩:=h
  refine ⟨_,(pss_cons (ps_expr (pe_callD G_must_be_sentence hr T.f_must_be_sentence (pa_cons (pv 0) pa_nil)))
      (pss_one (ps_ret (pe_callD G_written hr T.f_written (pa_cons (pv 0) pa_nil))))),?_⟩
  exact ⟨_,rfl,p,sn,rfl,isp,hin,hc,hd,fun H1 g1=>⟨_,rfl,p,sn,rfl,isp.mono (Tups.of g1),hin,hc,hd,fun H' g=>q _ (g1.trans g)⟩⟩
theorem ok_words (T:Txt P w K mg a) (G_must_be_sentence:FnOk P w K mg base CX0 k a.a_must_be_sentence a.d_must_be_sentence p_must_be_sentence spMustSen) (G_tuples_in:FnOk P w K mg base CX0 k a.a_tuples_in a.d_tuples_in p_tuples_in spTuplesIn):FnOk P w K mg base CX0 (k + 1) a.a_words a.d_words p_words spWordsN:=by
  refine T.f_words.F.ok sc_words (fun vs H Q E h=>?_) (fun cdv A outer s H vs Q E hr h=>?_)
  · obtain ⟨p,sn,rfl,_⟩:=h
    rfl
  obtain ⟨p,sn,rfl,isp,hin,hc,hd,q⟩:=h
  refine ⟨_,(pss_cons (ps_expr (pe_callD G_must_be_sentence hr T.f_must_be_sentence (pa_cons (pv 0) pa_nil)))
      (pss_one (ps_ret (pe_callB call_len_seq rfl T.n_len bt_len (pa_cons (pe_callD G_tuples_in hr T.f_tuples_in (pa_cons (pv 0) pa_nil)) pa_nil))))),?_⟩
  refine ⟨_,rfl,p,sn,rfl,isp,hin,hc,hd,fun H1 g1=>⟨_,rfl,p,sn,rfl,isp.mono (Tups.of g1),by omega,fun l H2 ts ps g2 hn hl hts htl hle=>⟨l,_,rfl,.inl (SqL.of hl),?_⟩⟩⟩
  rw [List.length_map,← pd_len hts,htl]
  exact q _ (g1.trans g2)
theorem ok_marks_of (T:Txt P w K mg a) (G_must_be_sentence:FnOk P w K mg base CX0 k a.a_must_be_sentence a.d_must_be_sentence p_must_be_sentence spMustSen) (G_letters_in:FnOk P w K mg base CX0 k a.a_letters_in a.d_letters_in p_letters_in spLettersIn):FnOk P w K mg base CX0 (k + 1) a.a_marks_of a.d_marks_of p_marks_of spMarksOf:=by
  refine T.f_marks_of.F.ok sc_marks_of (fun vs H Q E h=>?_) (fun cdv A outer s H vs Q E hr h=>?_)
  · obtain ⟨p,sn,rfl,_⟩:=h
    rfl
  obtain ⟨p,sn,rfl,isp,hin,hc,hd,q⟩:=h
  refine ⟨_,(pss_cons (ps_expr (pe_callD G_must_be_sentence hr T.f_must_be_sentence (pa_cons (pv 0) pa_nil)))
      (pss_one (ps_ret (pe_callB (call_sorted_setD rfl) rfl T.n_sorted bt_sorted (pa_cons (pe_callTy (call_setT rfl) rfl T.n_set bt_set (pa_cons (pe_callD G_letters_in hr T.f_letters_in (pa_cons (pv 0) pa_nil)) pa_nil)) pa_nil))))),?_⟩
  refine ⟨_,rfl,p,sn,rfl,isp,hin,hc,hd,fun H1 g1=>⟨_,rfl,p,sn,rfl,isp.mono (Tups.of g1),by omega,fun l H2 xs g2 hn hl hmem hxl=>⟨l,xs,rfl,SqL.of hl,by omega,fun z hz=>⟨z,xs,rfl,upd_same,dd_few (fun x hx=>(Sn.inO_iff sn).mp hin x ((hmem x).mp hx)),fun l2 ms hl2 pm so=>?_⟩⟩⟩⟩
  have gz:=(g1.trans g2).trans (Same.new hz (SetX P w z xs))
  refine q l2 _ ms (gz.trans (Same.new hl2 _)) (gz.free hl2) upd_same (pm.nodup_iff.mpr (dd_nd xs)) (fun x=>?_) so
  rw [pm.mem_iff,dd_mem,hmem]
end
end K05
namespace K05
open PySem L2 Sen
section
variable {P:Program} {w:World} {K:PySem.W.Frag} {mg:Str→Option Value} {base:Heap} {a:Ad} {k:Nat}
theorem ok_all_rows (T:Txt P w K mg a):FnOk P w K mg base CX0 (k + 1) a.a_all_rows a.d_all_rows p_all_rows spAllRows:=by
  refine T.f_all_rows.F.ok sc_all_rows (fun vs H Q E h=>?_) (fun cdv A outer s H vs Q E hr h=>?_)
  · obtain ⟨n,rfl,_⟩:=h
    rfl
  obtain ⟨n,rfl,hn,q⟩:=h
  refine ⟨_,(pss_one (ps_ret (pe_op op_sub (pe_op op_shlN pe_int (pe_op op_shlN pe_int (pv 0))) pe_int))),?_⟩
  have h1:=two8 hn
  have one:1 < 2 ^ 10000:=lt10k (k:=1) (by decide) (by decide)
  refine ⟨_,rfl,1,n,rfl,rfl,one,by omega,1,1 * 2 ^ n,rfl,rfl,one,by omega,_,1,rfl,rfl,?_⟩
  have e:(((1 * 2 ^ (1 * 2 ^ n):Nat):Int) - 1) = ((2 ^ 2 ^ n - 1:Nat):Int):=by
    rw [Nat.one_mul,Nat.one_mul]
    have:=Nat.two_pow_pos (2 ^ n)
    omega
  show Q (.int (((1 * 2 ^ (1 * 2 ^ n):Nat):Int) - 1)) H
  rw [e]
  exact q
theorem ok_rows_with (T:Txt P w K mg a):FnOk P w K mg base CX0 (k + 1) a.a_rows_with a.d_rows_with p_rows_with spRowsWith:=by
  refine T.f_rows_with.F.ok sc_rows_with (fun vs H Q E h=>?_) (fun cdv A outer s H vs Q E hr h=>?_)
  · obtain ⟨p,n,rfl,_⟩:=h
    rfl
  obtain ⟨p,n,rfl,hp,hn,q⟩:=h
  refine ⟨_,(pss_cons (ps_setA 2 sc_rows_with.nd (pe_op op_shlN pe_int (pv 0)))
      (pss_cons (ps_setA 3 sc_rows_with.nd (pe_op op_shlN (pe_op op_sub (pe_op op_shlN pe_int (pv 2)) pe_int) (pv 2)))
      (pss_cons (ps_for PassesOwn.never rfl (pi_range2 rfl T.n_range (pa_cons (pe_op op_add (pv 0) pe_int) (pa_cons (pv 1) pa_nil))) (pg_name (i:=4) sc_rows_with.nd rfl (Or.inl rfl)) (pss_one (ps_setA 3 sc_rows_with.nd (pe_op op_orN (pv 3) (pe_op op_shlN (pv 3) (pe_op op_shlN pe_int (pv 4)))))))
      (pss_one (ps_ret (pv 3)))))),?_⟩
  have one:1 < 2 ^ 10000:=lt10k (k:=1) (by decide) (by decide)
  have h1:=two8 (n:=p) (by omega)
  have hh:2 ^ p < 2 ^ 10000:=Nat.pow_lt_pow_right (by decide) (by omega)
  have pp:=Nat.two_pow_pos (2 ^ p)
  have e1:((1 * 2 ^ (1 * 2 ^ p):Nat):Int) - 1 = ((2 ^ 2 ^ p - 1:Nat):Int):=by
    rw [Nat.one_mul,Nat.one_mul]
    omega
  have lt1:2 ^ 2 ^ p - 1 < 2 ^ 10000:=Nat.lt_of_lt_of_le (Nat.sub_lt pp (by decide)) (Nat.pow_le_pow_right (by decide) (by omega))
  refine ⟨_,rfl,1,p,rfl,rfl,one,by omega,?_⟩
  refine ⟨_,rfl,1,1 * 2 ^ p,rfl,rfl,one,by omega,_,1,rfl,rfl,_,rfl,2 ^ 2 ^ p - 1,1 * 2 ^ p,congrArg V.int e1,rfl,lt1,by omega,?_⟩
  refine ⟨_,rfl,_,1,rfl,rfl,_,rfl,(p:Int) + 1,(n:Int),rfl,⟨by omega,by omega,by omega,by omega⟩,?_⟩
  refine for_range (fun i σ H'=>H' = H∧∃ (N:Nat) (f:Option V),σ = [some (.int p),some (.int n),some (.int ((1 * 2 ^ p:Nat):Int)),some (.int N),f]∧IsTab (p + 1 + i) N (fun b=>b.testBit p)) ⟨rfl,_,_,rfl,?_⟩ ?_ ?_
  · rw [Nat.one_mul]
    exact tab_block p
  · rintro i σ H' hi ⟨rfl,N,f,rfl,tb⟩
    have hi':p + 1 + i < n:=by omega
    have h2:=two8 (n:=p + 1 + i) (by omega)
    have e2:V.int ((p:Int) + 1 + (i:Nat)) = V.int ((p + 1 + i:Nat):Int):=congrArg V.int (by omega)
    have lt2:N < 2 ^ 10000:=lt10k (tab_lt tb) (Nat.le_trans h2 (by decide))
    refine ⟨_,rfl,_,rfl,_,rfl,1,p + 1 + i,rfl,e2,one,by omega,N,1 * 2 ^ (p + 1 + i),rfl,rfl,lt2,by omega,N,N * 2 ^ (1 * 2 ^ (p + 1 + i)),rfl,rfl,?_⟩
    refine ⟨rfl,_,_,rfl,?_⟩
    rw [Nat.one_mul]
    exact tab_double (m:=p + 1 + i) (by omega) tb
  · rintro σ H' ⟨rfl,N,f,rfl,tb⟩
    have e3:p + 1 + ((n:Int) - ((p:Int) + 1)).toNat = n:=by omega
    rw [e3] at tb
    exact ⟨_,rfl,q N tb⟩
theorem ok_flipped (T:Txt P w K mg a) (G_rows_with:FnOk P w K mg base CX0 k a.a_rows_with a.d_rows_with p_rows_with spRowsWith):FnOk P w K mg base CX0 (k + 1) a.a_flipped a.d_flipped p_flipped spFlipped:=by
  refine T.f_flipped.F.ok sc_flipped (fun vs H Q E h=>?_) (fun cdv A outer s H vs Q E hr h=>?_)
  · obtain ⟨N,p,n,f,rfl,_⟩:=h
    rfl
  obtain ⟨N,p,n,f,rfl,hp,hn,tb,q⟩:=h
  refine ⟨_,(pss_cons (ps_setA 3 sc_flipped.nd (pe_op op_andN (pv 0) (pe_callD G_rows_with hr T.f_rows_with (pa_cons (pv 1) (pa_cons (pv 2) pa_nil)))))
      (pss_cons (ps_setA 4 sc_flipped.nd (pe_op op_xorN (pv 0) (pv 3)))
      (pss_one (ps_ret (pe_op op_orN (pe_op op_shrN (pv 3) (pe_op op_shlN pe_int (pv 1))) (pe_op op_shlN (pv 4) (pe_op op_shlN pe_int (pv 1)))))))),?_⟩
  have one:1 < 2 ^ 10000:=lt10k (k:=1) (by decide) (by decide)
  have h1:=two8 (n:=p) (by omega)
  have h2:=two8 (n:=n) (by omega)
  refine ⟨_,rfl,_,rfl,_,rfl,p,n,rfl,hp,hn,fun R tr=>?_⟩
  refine ⟨N,R,rfl,rfl,?_⟩
  refine ⟨_,rfl,_,rfl,N,N &&& R,rfl,rfl,?_⟩
  have o:=tab_and tb tr
  have z:=tab_xor tb o
  have lt2:N ^^^ (N &&& R) < 2 ^ 10000:=lt10k (tab_lt z) (Nat.le_trans h2 (by decide))
  refine ⟨_,rfl,_,rfl,1,p,rfl,rfl,one,by omega,N &&& R,1 * 2 ^ p,rfl,rfl,_,rfl,_,rfl,1,p,rfl,rfl,one,by omega,N ^^^ (N &&& R),1 * 2 ^ p,rfl,rfl,lt2,by omega,_,_,rfl,rfl,?_⟩
  refine q _ ?_
  rw [Nat.one_mul]
  exact tab_flip hp tb tr
theorem ok_is_order (T:Txt P w K mg a) (G_is_mark:FnOk P w K mg base CX0 k a.a_is_mark a.d_is_mark p_is_mark spIsMark):FnOk P w K mg base CX0 (k + 1) a.a_is_order a.d_is_order p_is_order (spIsOrder K):=by
  refine T.f_is_order.F.ok sc_is_order (fun vs H Q E h=>?_) (fun cdv A outer s H vs Q E hr h=>?_)
  · obtain ⟨l,os,rfl,_⟩:=h
    rfl
  obtain ⟨l,os,rfl,hq,h100,q⟩:=h
  refine ⟨_,(pss_one (ps_ret (pe_and (pe_cmpR op_gt (pe_callB call_len_seq rfl T.n_len bt_len (pa_cons (pv 0) pa_nil)) pe_int (nomark _)) (pe_and (pe_callB (call_all rfl) rfl T.n_all bt_all (pa_cons (pe_lc0 (osc:=defScope S_is_order) (js:=[]) rfl (by show LcOk _ _ "letter" []; exact lco (by decide +kernel)) rfl (pi_list (pv 0)) (by show ∀ j∈([]:List Nat),j < 1; decide) (fun cl C s₂ H₂ fp=>(pe_callD G_is_mark hr T.f_is_mark (pa_cons (pv 0) pa_nil)))) pa_nil)) (pe_one (pe_cmpR op_eq (pe_callB call_len_set' rfl T.n_len bt_len (pa_cons (pe_callTy (call_set rfl) rfl T.n_set bt_set (pa_cons (pv 0) pa_nil)) pa_nil)) (pe_callB call_len_seq rfl T.n_len bt_len (pa_cons (pv 0) pa_nil)) (nomark _))))))),?_⟩
  have hlen:(os.map V.str).length = os.length:=List.length_map _
  refine ⟨_,rfl,l,_,rfl,.inl hq,_,_,rfl,rfl,_,rfl,ite2 (fun c=>?_) (fun c=>?_)⟩
  · have c':0 < os.length:=by have:=of_decide_eq_true c; rw [hlen] at this; omega
    refine ⟨_,rfl,l,rfl,⟨_,hq⟩,lc_relL (fun x v=>v = (match x with | .str y=>.bl (decide (y∈letts)) | _=>.non)) hq (by rw [hlen]; exact Nat.le_of_lt (small1000 (by omega))) ?_ (mono1 mono_isMark) ?_⟩
    · intro i x H' hx g
      rw [List.getElem?_map] at hx
      cases ho:os[i]? with
      | none=>rw [ho] at hx; cases hx
      | some y =>
        rw [ho] at hx
        cases hx
        exact ⟨_,rfl,y,rfl,rfl,g⟩
    · intro ys H' p hr' g hp
      have e:=pd_map (f:=fun x=>match x with | .str y=>.bl (decide (y∈letts)) | _=>.non) hr'
      rw [List.map_map] at e
      have e2:ys = (os.map fun y=>decide (y∈letts)).map V.bl:=by rw [e,List.map_map]; rfl
      subst e2
      have g1:=Same.new hp (.lst ((os.map fun y=>decide (y∈letts)).map V.bl))
      refine ⟨p,_,rfl,SqL.of upd_same,_,rfl,ite2 (fun c2=>?_) (fun c2=>?_)⟩
      · have hq2:=(g.trans g1).seq hq
        refine ⟨_,rfl,l,os,rfl,hq2,h100,fun z hz=>⟨z,_,rfl,upd_same,?_⟩⟩
        have g2:=Same.new hz (SetN P w z (dd os).length)
        refine ⟨_,rfl,l,_,rfl,.inl (g2.seq hq2),rfl,?_⟩
        have e3:decide (V.int ((dd os).length:Nat) = V.int ((os.map V.str).length:Nat)) = ordB os:=by
          unfold ordB
          have c2':os.all (fun x=>decide (x∈letts)) = true:=by rw [List.all_map] at c2; exact c2
          rw [decide_eq_true c',c2',hlen]
          by_cases nd:os.Nodup
          · rw [decide_eq_true nd,dd_nodup nd]; simp
          · have:=dd_dup nd
            rw [decide_eq_false nd,decide_eq_false (fun z=>by injection z with z; omega)]; rfl
        rw [e3]
        exact q _ ((g.trans g1).trans g2)
      · have e4:ordB os = false:=by
          unfold ordB
          have c2':os.all (fun x=>decide (x∈letts)) = false:=by
            rw [List.all_map] at c2
            exact Bool.eq_false_iff.mpr c2
          rw [c2',Bool.false_and,Bool.and_false]
        rw [← e4]
        exact q _ (g.trans g1)
  · have e4:ordB os = false:=by
      unfold ordB
      rw [decide_eq_false (fun z=>c (decide_eq_true (by rw [hlen]; omega))),Bool.false_and]
    rw [← e4]
    exact q _ (Same.refl _)
theorem ok_parts_of_all (T:Txt P w K mg a) (G_parts_of:FnOk P w K mg base CX0 k a.a_parts_of a.d_parts_of p_parts_of spPartsOf):FnOk P w K mg base CX0 (k + 1) a.a_parts_of_all a.d_parts_of_all p_parts_of_all (spPartsOfAll K):=by
  refine T.f_parts_of_all.F.ok sc_parts_of_all (fun vs H Q E h=>?_) (fun cdv A outer s H vs Q E hr h=>?_)
  · obtain ⟨l,ss,ps,rfl,_⟩:=h
    rfl
  obtain ⟨l,ss,ps,rfl,hl,hp,hz,q⟩:=h
  refine ⟨_,(pss_cons (ps_setA 1 sc_parts_of_all.nd (pe_lst pa_nil))
      (pss_cons (ps_for PassesOwn.never rfl (pi_list (pv 0)) (pg_name (i:=2) sc_parts_of_all.nd rfl (Or.inl rfl)) (pss_one (ps_expr (pe_bm PySem.F.plainAttrs_list PySem.F.slot_list_extend PySem.F.type_list_extend mt_extendT (pv 1) (pa_cons (pe_callD G_parts_of hr T.f_parts_of (pa_cons (pv 2) pa_nil)) pa_nil)))))
      (pss_one (ps_ret (pv 1))))),?_⟩
  have pl:=pd_len hp
  refine ⟨by show 0≤sizeLine; decide,fun f hf=>?_⟩
  have g0:=Same.new hf (.lst [])
  refine ⟨_,rfl,l,rfl,⟨_,g0.seq hl⟩,?_⟩
  refine for_list (xs:=ps.map V.ref) (fun i σ H'=>∃ (qs:List Addr) (f1:Option V),Same H H'∧H' f = some (.lst (qs.map V.ref))∧Paired (IsS H') ((ss.take i).flatMap Sn.parts) qs∧qs.length≤2 * i∧i≤ss.length∧σ = [some (.ref l),some (.ref f),f1])
    ⟨[],_,g0,upd_same,.nil,by simp,Nat.zero_le _,rfl⟩ ?_ ?_ ?_
  · rintro i σ H' _ ⟨qs,f1,g,_⟩
    exact g.seq hl
  · rintro i x σ H' hx ⟨qs,f1,g,hf',hqs,lq,li,rfl⟩
    rw [List.getElem?_map] at hx
    cases ho:ps[i]? with
    | none=>rw [ho] at hx; cases hx
    | some p =>
      rw [ho] at hx
      cases hx
      obtain ⟨sn,hsn,isp⟩:=pd_ta hp ho
      have hlt:=(List.getElem?_eq_some_iff.mp hsn).1
      obtain ⟨zs,c1,c2,c3,c4,c5⟩:=sen_cut (isp.mono (Tups.of g))
      have lz:=pd_len c2
      have lp2:=Sn.parts_le sn
      refine ⟨_,rfl,.inl ⟨rfl,_,SqL.of hf'⟩,_,rfl,p,sn.word,sn.letters.length,sn.parts.length,_,rfl,c1,shape_in sn,c3,fun b hb=>?_⟩
      rw [c5]
      have nfb:f≠b:=ne_of_none hf' hb
      have hf2:(upd H' b (.tup (zs.map V.ref))) f = some (.lst (qs.map V.ref)):=by rw [upd_ne nfb]; exact hf'
      refine ⟨f,b,qs.map V.ref,zs.map V.ref,rfl,rfl,hf2,?_,?_,?_⟩
      · exact SqT.of upd_same
      · rw [List.length_map,List.length_map]
        exact Nat.le_of_lt (small1000 (by omega))
      · refine ⟨qs ++ zs,_,(g.trans (Same.new hb _)).over hf _,by rw [upd_same,List.map_append],?_,?_,hlt,rfl⟩
        · rw [take_next hsn,List.flatMap_append,List.flatMap_singleton]
          have t1:Tups H' (upd (upd H' b (.tup (zs.map V.ref))) f (.lst (qs.map V.ref ++ zs.map V.ref))):=(Tups.new hb _).trans (Tups.lst hf2 _)
          exact pd_app (pd_imp (fun _ _ z=>z.mono t1) hqs) (pd_imp (fun _ _ z=>z.mono t1) c2)
        · rw [List.length_append]; omega
  · rintro σ H' ⟨qs,f1,g,hf',hqs,lq,li,rfl⟩
    rw [List.length_map,← pl,List.take_length] at hqs
    exact ⟨_,rfl,q f H' qs g hf hf' hqs⟩
theorem ok_is_shaped (T:Txt P w K mg a) (G_is_mark:FnOk P w K mg base CX0 k a.a_is_mark a.d_is_mark p_is_mark spIsMark) (G_letters_of:FnOk P w K mg base CX0 k a.a_letters_of a.d_letters_of p_letters_of spLettersOf) (G_parts_of:FnOk P w K mg base CX0 k a.a_parts_of a.d_parts_of p_parts_of spPartsOf) :
    FnOk P w K mg base CX0 (k + 1) a.a_is_shaped a.d_is_shaped p_is_shaped spShaped:=by
  refine T.f_is_shaped.F.ok sc_is_shaped (fun vs H Q E h=>?_) (fun cdv A outer s H vs Q E hr h=>?_)
  · obtain ⟨p,s,rfl,_⟩:=h
    rfl
  obtain ⟨p,sn,rfl,isp,hle,q⟩:=h
  refine ⟨_,(pss_cons (ps_if (PW.pt (pw_or (pt_cmpR op_eq (pe_callB call_len_seq rfl T.n_len bt_len (pa_cons (pv 0) pa_nil)) pe_int (nomark _)) (pw_or (pt_not (pt_truth (pe_callB call_isinst rfl T.n_isinstance bt_isinstance (pa_cons (pe_ix ix_tup (pv 0) pe_int (fun _ _=>rfl)) (pa_cons (pe_bltn (v:=.ty "str") rfl T.n_str bt_str rfl) pa_nil))) (fun _=>rfl))) (pw_or1 (pt_cmpR (op_notIn_dicK T.h_SHAPES.d) (pe_ix ix_tup (pv 0) pe_int (fun _ _=>rfl)) (pe_glob (v:=.ref a.a_SHAPES) rfl T.m_SHAPES rfl) (by with_unfolding_all rfl)))))) (pss_one (ps_ret pe_bl)) pss_nil)
      (pss_cons (ps_setA 1 sc_is_shaped.nd (pe_ix (ix_dicK T.h_SHAPES.d) (pe_glob (v:=.ref a.a_SHAPES) rfl T.m_SHAPES rfl) (pe_ix ix_tup (pv 0) pe_int (fun _ _=>rfl)) (fun _ _=>rfl)))
      (pss_cons (ps_if (pt_cmpR op_ne (pe_callB call_len_seq rfl T.n_len bt_len (pa_cons (pv 0) pa_nil)) (pe_op op_add (pe_op op_add pe_int (pe_ix ix_tup (pv 1) pe_int (fun _ _=>rfl))) (pe_ix ix_tup (pv 1) pe_int (fun _ _=>rfl))) (nomark _)) (pss_one (ps_ret pe_bl)) pss_nil)
      (pss_cons (ps_if (pt_not (pt_truth (pe_callB (call_all rfl) rfl T.n_all bt_all (pa_cons (pe_lc0 (osc:=defScope S_is_shaped) (js:=[]) rfl (by show LcOk _ _ "letter" []; exact lco (by decide +kernel)) rfl (pi_tup (pe_callD G_letters_of hr T.f_letters_of (pa_cons (pv 0) pa_nil))) (by show ∀ j∈([]:List Nat),j < 2; decide) (fun cl C s₂ H₂ fp=>(pe_callD G_is_mark hr T.f_is_mark (pa_cons (pv 0) pa_nil)))) pa_nil)) (fun _=>rfl))) (pss_one (ps_ret pe_bl)) pss_nil)
      (pss_one (ps_ret (pe_callB (call_all rfl) rfl T.n_all bt_all (pa_cons (pe_lc0 (osc:=defScope S_is_shaped) (js:=[]) rfl (by show LcOk _ _ "part" []; exact lco (by decide +kernel)) rfl (pi_tup (pe_callD G_parts_of hr T.f_parts_of (pa_cons (pv 0) pa_nil))) (by show ∀ j∈([]:List Nat),j < 2; decide) (fun cl C s₂ H₂ fp=>(pe_callB (call_isinstK (K:=K) rfl) rfl T.n_isinstance bt_isinstance (pa_cons (pv 0) (pa_cons (pe_bltn (v:=.ty "tuple") rfl T.n_tuple bt_tuple rfl) pa_nil))))) pa_nil)))))))),?_⟩
  obtain ⟨zs,c1,c2,c3,c4,c5⟩:=sen_cut isp
  have lz:=pd_len c2
  obtain ⟨pt,hv,hpt⟩:=T.h_SHAPES.y _ _ _ (shape_in sn)
  have lp2:=Sn.parts_le sn
  have ll1:=Sn.letters_le sn
  refine ⟨_,rfl,p,_,rfl,.inr (SqT.of c1),rfl,_,rfl,ite2 (fun c=>?_) (fun _=>?_)⟩
  · exfalso
    have:=of_decide_eq_true c
    injection this with this
    rw [List.length_cons] at this
    omega
  refine ⟨_,rfl,p,_,0,_,rfl,rfl,SqT.of c1,at0,_,_,_,true,rfl,.str sn.word,rfl,_,rfl,iteF ?_⟩
  refine ⟨_,rfl,p,_,0,_,rfl,rfl,SqT.of c1,at0,sn.word,rfl,rfl,_,rfl,?_⟩
  rw [hv]
  refine iteF ?_
  refine ⟨_,rfl,p,_,0,_,rfl,rfl,SqT.of c1,at0,sn.word,.ref pt,.ref pt,rfl,rfl,hv,rfl,?_⟩
  refine ⟨_,rfl,p,_,rfl,.inr (SqT.of c1),_,rfl,pt,_,0,_,rfl,rfl,hpt H,at0,1,_,rfl,rfl,_,rfl,pt,_,1,_,rfl,rfl,hpt H,at1,_,_,rfl,rfl,rfl,_,rfl,ite2 (fun c=>?_) (fun _=>?_)⟩
  · exfalso
    have z:V.int ((VC sn zs).length:Nat) = V.int (1 + ((sn.letters.length:Nat):Int) + ((sn.parts.length:Nat):Int)):=by
      congr 1
      show (((V.str sn.word :: (sn.letters.map V.str ++ zs.map V.ref)).length:Nat):Int) = _
      rw [List.length_cons,c3]
      omega
    have c':(!decide (V.int ((VC sn zs).length:Nat) = V.int (1 + ((sn.letters.length:Nat):Int) + ((sn.parts.length:Nat):Int)))) = true:=c
    rw [decide_eq_true z] at c'
    cases c'
  refine ⟨_,rfl,p,sn.word,sn.letters.length,sn.parts.length,_,rfl,c1,shape_in sn,c3,fun b hb=>?_⟩
  rw [c4]
  have g1:=Same.new hb (.tup (sn.letters.map V.str))
  refine ⟨b,rfl,⟨_,SqT.of upd_same⟩,lc_relT (xs:=sn.letters.map V.str) (fun _ v=>v = .bl true) (SqT.of upd_same) (by rw [List.length_map]; exact Nat.le_of_lt (small1000 (by omega))) ?_ (mono1 mono_isMark) ?_⟩
  · intro i x H' hx g
    rw [List.getElem?_map] at hx
    cases ho:sn.letters[i]? with
    | none=>rw [ho] at hx; cases hx
    | some y =>
      rw [ho] at hx
      cases hx
      refine ⟨_,rfl,y,rfl,?_,g⟩
      rw [decide_eq_true (hle y (List.mem_of_getElem? ho))]
  intro ys H' p2 hr' g hp2
  have e:=pd_map (f:=fun _=>.bl true) hr'
  have e2:ys = (sn.letters.map fun _=>true).map V.bl:=by rw [e,List.map_map,List.map_map]; rfl
  subst e2
  have g2:=Same.new hp2 (.lst ((sn.letters.map fun _=>true).map V.bl))
  have ea:(sn.letters.map fun _=>true).all id = true:=by rw [List.all_map,List.all_eq_true]; exact fun _ _=>rfl
  refine ⟨p2,_,rfl,SqL.of upd_same,_,rfl,?_⟩
  rw [ea]
  refine iteF ?_
  have gg:=(g1.trans g).trans g2
  have c1':=gg _ _ c1
  refine ⟨_,rfl,p,sn.word,sn.letters.length,sn.parts.length,_,rfl,c1',shape_in sn,c3,fun b3 hb3=>?_⟩
  rw [c5]
  have g3:=Same.new hb3 (.tup (zs.map V.ref))
  refine ⟨b3,rfl,⟨_,SqT.of upd_same⟩,lc_relT (xs:=zs.map V.ref) (fun _ v=>v = .bl true) (SqT.of upd_same) (by rw [List.length_map]; exact Nat.le_of_lt (small1000 (by omega))) ?_ ?_ ?_⟩
  · intro i x H4 hx g4
    rw [List.getElem?_map] at hx
    cases ho:zs[i]? with
    | none=>rw [ho] at hx; cases hx
    | some y =>
      rw [ho] at hx
      cases hx
      obtain ⟨sy,_,iy⟩:=pd_ta c2 ho
      obtain ⟨ws,d1,_⟩:=sen_cut iy
      have d1':=((gg.trans g3).trans g4) _ _ d1
      exact ⟨_,rfl,_,_,_,true,rfl,.tup d1',rfl,rfl,g4⟩
  · rintro σ' H' Q1 Q2 hQ ⟨v,e,x,T',t,b',h1,h2,h3,h4⟩
    exact ⟨v,e,x,T',t,b',h1,h2,h3,hQ _ _ h4⟩
  · intro ys H4 p4 hr4 g4 hp4
    have e:=pd_map (f:=fun _=>.bl true) hr4
    have e2:ys = (zs.map fun _=>true).map V.bl:=by rw [e,List.map_map,List.map_map]; rfl
    subst e2
    have ea:(zs.map fun _=>true).all id = true:=by rw [List.all_map,List.all_eq_true]; exact fun _ _=>rfl
    refine ⟨p4,_,rfl,SqL.of upd_same,?_⟩
    rw [ea]
    exact q _ (((gg.trans g3).trans g4).trans (Same.new hp4 _))
theorem ok_is_sentence (T:Txt P w K mg a) (G_is_shaped:FnOk P w K mg base CX0 k a.a_is_shaped a.d_is_shaped p_is_shaped spShaped) (G_parts_of_all:FnOk P w K mg base CX0 k a.a_parts_of_all a.d_parts_of_all p_parts_of_all (spPartsOfAll K)) :
    FnOk P w K mg base CX0 (k + 1) a.a_is_sentence a.d_is_sentence p_is_sentence spIsSen:=by
  refine T.f_is_sentence.F.ok sc_is_sentence (fun vs H Q E h=>?_) (fun cdv A outer s H vs Q E hr h=>?_)
  · obtain ⟨p,s,rfl,_⟩:=h
    rfl
  obtain ⟨p,sn,rfl,isp,hin,hc,hd,q⟩:=h
  refine ⟨_,(pss_cons (ps_setA 1 sc_is_sentence.nd (pe_lst (pa_cons (pv 0) pa_nil)))
      (pss_cons (ps_setA 2 sc_is_sentence.nd pe_int)
      (pss_cons (ps_setA 3 sc_is_sentence.nd pe_int)
      (pss_cons (ps_while PassesOwn.never (pt_cmpR op_gt (pe_callB call_len_seq rfl T.n_len bt_len (pa_cons (pv 1) pa_nil)) pe_int (nomark _)) (pss_cons (ps_aug (i:=2) sc_is_sentence.nd rfl (Or.inl rfl) pe_int iop_add)
      (pss_cons (ps_aug (i:=3) sc_is_sentence.nd rfl (Or.inl rfl) (pe_callB call_len_seq rfl T.n_len bt_len (pa_cons (pv 1) pa_nil)) iop_add)
      (pss_cons (ps_if (PW.pt (pw_or (pt_cmpR op_gt (pv 2) (pe_glob (v:=.int 24) rfl T.m_MOST_DEEP ⟨_,rfl⟩) (nomark _)) (pw_or1 (pt_cmpR op_gt (pv 3) (pe_glob (v:=.int 200) rfl T.m_MOST_TUPLES ⟨_,rfl⟩) (nomark _))))) (pss_one (ps_ret pe_bl)) pss_nil)
      (pss_cons (ps_if (pt_not (pt_truth (pe_callB (call_all rfl) rfl T.n_all bt_all (pa_cons (pe_lc0 (osc:=defScope S_is_sentence) (js:=[]) rfl (by show LcOk _ _ "part" []; exact lco (by decide +kernel)) rfl (pi_list (pv 1)) (by show ∀ j∈([]:List Nat),j < 4; decide) (fun cl C s₂ H₂ fp=>(pe_callD G_is_shaped hr T.f_is_shaped (pa_cons (pv 0) pa_nil)))) pa_nil)) (fun _=>rfl))) (pss_one (ps_ret pe_bl)) pss_nil)
      (pss_one (ps_setA 1 sc_is_sentence.nd (pe_callD G_parts_of_all hr T.f_parts_of_all (pa_cons (pv 1) pa_nil)))))))))
      (pss_one (ps_ret pe_bl)))))),?_⟩
  refine ⟨_,rfl,by show 1≤sizeLine; decide,fun l0 hl0=>?_⟩
  have g0:=Same.new hl0 (.lst [.ref p])
  refine ⟨fun m σ H'=>∃ (ss:List Sn) (ps:List Addr) (l:Addr) (d t:Nat),m = cnt ss∧Same H H'∧H' l = some (.lst (ps.map V.ref))∧Paired (IsS H') ss ps∧(∀ u∈ss,u.inO letts∧d + u.depth≤24)∧t + cnt ss≤200∧σ = [some (.ref p),some (.ref l),some (.int d),some (.int t)],
    ⟨_,[sn],[p],l0,0,0,rfl,g0,upd_same,.cons (isp.mono (Tups.of g0)) .nil,?_,?_,rfl⟩,?_⟩
  · intro u hu
    have e:u = sn:=by simpa using hu
    subst e
    exact ⟨hin,by omega⟩
  · show 0 + (sn.count + 0)≤200
    omega
  rintro m σ H' ⟨ss,ps,l,d,t,rfl,g,hl,hp,hi,ht,rfl⟩
  have lp:=pd_len hp
  have le:(ps.map V.ref).length = ss.length:=by rw [List.length_map]; exact lp.symm
  have cl:=cnt_len ss
  refine ⟨_,rfl,l,_,rfl,.inl (SqL.of hl),_,_,rfl,rfl,_,rfl,ite2 (fun c=>?_) (fun c=>?_)⟩
  · have c':0 < ss.length:=by have:=of_decide_eq_true c; rw [le] at this; omega
    have hd1:d + 1≤24:=by
      have hm:ss[0]∈ss:=List.getElem_mem c'
      have:=(hi _ hm).2
      have:=Sn.depth_pos ss[0]
      omega
    refine ⟨_,fun σ' H2 h=>h,?_⟩
    refine ⟨_,rfl,(d:Int),1,rfl,rfl,?_⟩
    refine ⟨_,rfl,_,rfl,l,_,rfl,.inl (SqL.of hl),(t:Int),_,rfl,rfl,?_⟩
    refine ⟨_,rfl,_,_,rfl,rfl,_,rfl,ite2 (fun c2=>?_) (fun _=>?_)⟩
    · exfalso
      have:=of_decide_eq_true c2
      omega
    refine ⟨_,rfl,_,_,rfl,rfl,_,rfl,ite2 (fun c2=>?_) (fun _=>?_)⟩
    · exfalso
      have:=of_decide_eq_true c2
      rw [le] at this
      omega
    refine ⟨_,rfl,l,rfl,⟨_,SqL.of hl⟩,lc_relL (fun _ v=>v = .bl true) (SqL.of hl) (by rw [le]; exact Nat.le_of_lt (small1000 (by omega))) ?_ (mono1 mono_shaped) ?_⟩
    · intro i x H2 hx g2
      rw [List.getElem?_map] at hx
      cases ho:ps[i]? with
      | none=>rw [ho] at hx; cases hx
      | some y =>
        rw [ho] at hx
        cases hx
        obtain ⟨sy,hsy,iy⟩:=pd_ta hp ho
        exact ⟨_,rfl,y,sy,rfl,iy.mono (Tups.of g2),Sn.inO_letters sy (hi sy (List.mem_of_getElem? hsy)).1,fun H3 g3=>⟨rfl,g2.trans g3⟩⟩
    intro ys H2 p2 hr' g2 hp2
    have e:=pd_map (f:=fun _=>.bl true) hr'
    have e2:ys = (ps.map fun _=>true).map V.bl:=by rw [e,List.map_map,List.map_map]; rfl
    subst e2
    have g3:=Same.new hp2 (.lst ((ps.map fun _=>true).map V.bl))
    have ea:(ps.map fun _=>true).all id = true:=by rw [List.all_map,List.all_eq_true]; exact fun _ _=>rfl
    refine ⟨p2,_,rfl,SqL.of upd_same,_,rfl,?_⟩
    rw [ea]
    refine iteF ?_
    have gg:=g2.trans g3
    refine ⟨_,rfl,l,ss,ps,rfl,gg.seq (SqL.of hl),pd_imp (fun _ _ z=>z.mono (Tups.of gg)) hp,by omega,fun l' H4 ps' g4 hn hl' hp'=>?_⟩
    have cp:=cnt_parts ss
    refine ⟨cnt (ss.flatMap Sn.parts),by omega,ss.flatMap Sn.parts,ps',l',d + 1,t + (ps.map V.ref).length,rfl,(g.trans gg).trans g4,hl',hp',?_,by omega,rfl⟩
    intro u hu
    obtain ⟨s',hs',hu'⟩:=mem_level.mp hu
    obtain ⟨i1,i2⟩:=hi s' hs'
    have:=Sn.depth_parts s' u hu'
    exact ⟨Sn.inO_parts s' i1 u hu',by omega⟩
  · exact q _ g
theorem ok_must_be_order (T:Txt P w K mg a) (G_is_order:FnOk P w K mg base CX0 k a.a_is_order a.d_is_order p_is_order (spIsOrder K)):FnOk P w K mg base CX0 (k + 1) a.a_must_be_order a.d_must_be_order p_must_be_order (spMustOrder K):=by
  refine T.f_must_be_order.F.ok sc_must_be_order (fun vs H Q E h=>?_) (fun cdv A outer s H vs Q E hr h=>?_)
  · obtain ⟨l,os,rfl,_⟩:=h
    rfl
  obtain ⟨l,os,rfl,hq,ho,q⟩:=h
  refine ⟨_,(pss_one (ps_if (pt_not (pt_truth (pe_callD G_is_order hr T.f_is_order (pa_cons (pv 0) pa_nil)) (fun _=>rfl))) (pss_one ps_never) pss_nil)),?_⟩
  refine ⟨_,rfl,l,os,rfl,hq,Nat.le_trans ho.le (by decide),fun H' g=>⟨_,rfl,?_⟩⟩
  rw [ordB_of ho]
  exact iteF (q H' g)
theorem ok_must_be_sentence (T:Txt P w K mg a) (G_is_sentence:FnOk P w K mg base CX0 k a.a_is_sentence a.d_is_sentence p_is_sentence spIsSen):FnOk P w K mg base CX0 (k + 1) a.a_must_be_sentence a.d_must_be_sentence p_must_be_sentence spMustSen:=by
  refine T.f_must_be_sentence.F.ok sc_must_be_sentence (fun vs H Q E h=>?_) (fun cdv A outer s H vs Q E hr h=>?_)
  · obtain ⟨p,s,rfl,_⟩:=h
    rfl
  obtain ⟨p,sn,rfl,h1,h2,h3,h4,q⟩:=h
  refine ⟨_,(pss_one (ps_if (pt_not (pt_truth (pe_callD G_is_sentence hr T.f_is_sentence (pa_cons (pv 0) pa_nil)) (fun _=>rfl))) (pss_one ps_never) pss_nil)),?_⟩
  exact ⟨_,rfl,p,sn,rfl,h1,h2,h3,h4,fun H' g=>⟨_,rfl,iteF (q H' g)⟩⟩
theorem ok_tuples_in (T:Txt P w K mg a) (G_parts_of_all:FnOk P w K mg base CX0 k a.a_parts_of_all a.d_parts_of_all p_parts_of_all (spPartsOfAll K)):FnOk P w K mg base CX0 (k + 1) a.a_tuples_in a.d_tuples_in p_tuples_in spTuplesIn:=by
  refine T.f_tuples_in.F.ok sc_tuples_in (fun vs H Q E h=>?_) (fun cdv A outer s H vs Q E hr h=>?_)
  · obtain ⟨p,s,rfl,_⟩:=h
    rfl
  obtain ⟨p,sn,rfl,isp,hc,q⟩:=h
  refine ⟨_,(pss_cons (ps_setA 1 sc_tuples_in.nd (pe_lst pa_nil))
      (pss_cons (ps_setA 2 sc_tuples_in.nd (pe_lst (pa_cons (pv 0) pa_nil)))
      (pss_cons (ps_while PassesOwn.never (pt_cmpR op_gt (pe_callB call_len_seq rfl T.n_len bt_len (pa_cons (pv 2) pa_nil)) pe_int (nomark _)) (pss_cons (ps_expr (pe_bm PySem.F.plainAttrs_list PySem.F.slot_list_extend PySem.F.type_list_extend mt_extend (pv 1) (pa_cons (pv 2) pa_nil)))
      (pss_one (ps_setA 2 sc_tuples_in.nd (pe_callD G_parts_of_all hr T.f_parts_of_all (pa_cons (pv 2) pa_nil))))))
      (pss_one (ps_ret (pv 1)))))),?_⟩
  refine ⟨by show 0≤sizeLine; decide,fun f hf=>?_⟩
  refine ⟨_,rfl,by show 1≤sizeLine; decide,fun l0 hl0=>?_⟩
  have g0:=(Same.new hf (.lst [])).trans (Same.new hl0 (.lst [.ref p]))
  have nfl:f≠l0:=ne_of_none upd_same hl0
  refine ⟨fun m σ H'=>∃ (ts ss:List Sn) (qs ps:List Addr) (l:Addr),m = cnt ss∧Same H H'∧H' f = some (.lst (qs.map V.ref))∧H' l = some (.lst (ps.map V.ref))∧f≠l∧Paired (IsS H') ts qs∧Paired (IsS H') ss ps∧ts.length + cnt ss = sn.count ∧
      (∀ x,((∃ t∈ts,x∈t.letters)∨∃ u∈ss,x∈u.all)↔x∈sn.all)∧σ = [some (.ref p),some (.ref f),some (.ref l)],
    ⟨_,[],[sn],[],[p],l0,rfl,g0,by rw [upd_ne nfl]; exact upd_same,upd_same,nfl,.nil,.cons (isp.mono (Tups.of g0)) .nil,?_,?_,rfl⟩,?_⟩
  · show 0 + (sn.count + 0) = sn.count
    omega
  · intro x
    simp
  rintro m σ H' ⟨ts,ss,qs,ps,l,rfl,g,hf',hl,nfl,hts,hss,hcn,hle,rfl⟩
  have lt:=pd_len hts
  have lp:=pd_len hss
  have cl:=cnt_len ss
  have le:(ps.map V.ref).length = ss.length:=by rw [List.length_map]; exact lp.symm
  refine ⟨_,rfl,l,_,rfl,.inl (SqL.of hl),_,_,rfl,rfl,_,rfl,ite2 (fun c=>?_) (fun c=>?_)⟩
  · have c':0 < ss.length:=by have:=of_decide_eq_true c; rw [le] at this; omega
    refine ⟨_,fun σ' H2 h=>h,?_⟩
    refine ⟨_,rfl,.inl ⟨rfl,_,SqL.of hf'⟩,_,rfl,f,l,_,_,rfl,rfl,hf',hl,by rw [List.length_map,List.length_map]; exact Nat.le_of_lt (small1000 (by omega)),?_⟩
    have t1:Tups H' (upd H' f (.lst (qs.map V.ref ++ ps.map V.ref))):=Tups.lst hf' _
    have g1:Same H (upd H' f (.lst (qs.map V.ref ++ ps.map V.ref))):=g.over hf _
    have hl1:(upd H' f (.lst (qs.map V.ref ++ ps.map V.ref))) l = some (.lst (ps.map V.ref)):=by rw [upd_ne (Ne.symm nfl)]; exact hl
    refine ⟨_,rfl,l,ss,ps,rfl,SqL.of hl1,pd_imp (fun _ _ z=>z.mono t1) hss,by omega,fun l' H3 ps' g3 hn hl' hp'=>?_⟩
    have cp:=cnt_parts ss
    have t3:=t1.trans (Tups.of g3)
    refine ⟨cnt (ss.flatMap Sn.parts),by omega,ts ++ ss,ss.flatMap Sn.parts,qs ++ ps,ps',l',rfl,g1.trans g3,by rw [List.map_append]; exact g3 _ _ upd_same,hl',ne_of_none upd_same hn,
      pd_app (pd_imp (fun _ _ z=>z.mono t3) hts) (pd_imp (fun _ _ z=>z.mono t3) hss),hp',by rw [List.length_append]; omega,fun x=>?_,rfl⟩
    rw [← hle x]
    constructor
    · rintro (⟨t,ht,hx⟩ | ⟨u,hu,hx⟩)
      · rcases List.mem_append.mp ht with z | z
        · exact .inl ⟨t,z,hx⟩
        · exact .inr ⟨t,z,(Sn.all_iff t x).mpr (.inl hx)⟩
      · obtain ⟨s',hs',hu'⟩:=mem_level.mp hu
        exact .inr ⟨s',hs',(Sn.all_iff s' x).mpr (.inr ⟨u,hu',hx⟩)⟩
    · rintro (⟨t,ht,hx⟩ | ⟨u,hu,hx⟩)
      · exact .inl ⟨t,List.mem_append_left _ ht,hx⟩
      · rcases (Sn.all_iff u x).mp hx with z | ⟨v,hv,z⟩
        · exact .inl ⟨u,List.mem_append_right _ hu,z⟩
        · exact .inr ⟨v,mem_level.mpr ⟨u,hu,hv⟩,z⟩
  · have c':ss = []:=by
      have:¬ 0 < ss.length:=fun z=>c (decide_eq_true (by rw [le]; omega))
      exact List.length_eq_zero_iff.mp (by omega)
    subst c'
    refine ⟨_,rfl,q f H' ts qs g hf hf' hts ?_ fun x=>?_⟩
    · have:cnt [] = 0:=rfl
      omega
    · rw [← hle x]
      constructor
      · exact fun z=>.inl z
      · rintro (z | ⟨u,hu,_⟩)
        · exact z
        · cases hu
theorem ok_letters_in (T:Txt P w K mg a) (G_tuples_in:FnOk P w K mg base CX0 k a.a_tuples_in a.d_tuples_in p_tuples_in spTuplesIn) (G_letters_of:FnOk P w K mg base CX0 k a.a_letters_of a.d_letters_of p_letters_of spLettersOf):FnOk P w K mg base CX0 (k + 1) a.a_letters_in a.d_letters_in p_letters_in spLettersIn:=by
  refine T.f_letters_in.F.ok sc_letters_in (fun vs H Q E h=>?_) (fun cdv A outer s H vs Q E hr h=>?_)
  · obtain ⟨p,s,rfl,_⟩:=h
    rfl
  obtain ⟨p,sn,rfl,isp,hc,q⟩:=h
  refine ⟨_,(pss_cons (ps_setA 1 sc_letters_in.nd (pe_lst pa_nil))
      (pss_cons (ps_for PassesOwn.never rfl (pi_list (pe_callD G_tuples_in hr T.f_tuples_in (pa_cons (pv 0) pa_nil))) (pg_name (i:=2) sc_letters_in.nd rfl (Or.inl rfl)) (pss_one (ps_expr (pe_bm PySem.F.plainAttrs_list PySem.F.slot_list_extend PySem.F.type_list_extend mt_extendT (pv 1) (pa_cons (pe_callD G_letters_of hr T.f_letters_of (pa_cons (pv 2) pa_nil)) pa_nil)))))
      (pss_one (ps_ret (pv 1))))),?_⟩
  refine ⟨by show 0≤sizeLine; decide,fun f hf=>?_⟩
  have g0:=Same.new hf (.lst [])
  refine ⟨_,rfl,p,sn,rfl,isp.mono (Tups.of g0),hc,fun l H1 ts ps g1 hn hl hts htl hle=>?_⟩
  have nfl:f≠l:=ne_of_none upd_same hn
  have lt:=pd_len hts
  refine ⟨l,rfl,⟨_,SqL.of hl⟩,?_⟩
  refine for_list (xs:=ps.map V.ref) (fun i σ H'=>∃ (f1:Option V),Same H H'∧H' f = some (.lst (((ts.take i).flatMap Sn.letters).map V.str))∧H' l = some (.lst (ps.map V.ref))∧Paired (IsS H') ts ps∧((ts.take i).flatMap Sn.letters).length≤i∧i≤ts.length∧σ = [some (.ref p),some (.ref f),f1])
    ⟨_,g0.trans g1,g1 _ _ upd_same,hl,hts,by simp,Nat.zero_le _,rfl⟩ ?_ ?_ ?_
  · rintro i σ H' _ ⟨f1,g,hf',hl',_⟩
    exact SqL.of hl'
  · rintro i x σ H' hx ⟨f1,g,hf',hl',hts',lq,li,rfl⟩
    rw [List.getElem?_map] at hx
    cases ho:ps[i]? with
    | none=>rw [ho] at hx; cases hx
    | some pp =>
      rw [ho] at hx
      cases hx
      obtain ⟨sy,hsy,iy⟩:=pd_ta hts' ho
      have hlt:=(List.getElem?_eq_some_iff.mp hsy).1
      obtain ⟨zs,c1,c2,c3,c4,c5⟩:=sen_cut iy
      have l1:=Sn.letters_le sy
      refine ⟨_,rfl,.inl ⟨rfl,_,SqL.of hf'⟩,_,rfl,pp,sy.word,sy.letters.length,sy.parts.length,_,rfl,c1,shape_in sy,c3,fun b hb=>?_⟩
      rw [c4]
      have hf2:(upd H' b (.tup (sy.letters.map V.str))) f = some (.lst (((ts.take i).flatMap Sn.letters).map V.str)):=by rw [upd_ne (ne_of_none hf' hb)]; exact hf'
      refine ⟨f,b,_,sy.letters.map V.str,rfl,rfl,hf2,SqT.of upd_same,?_,?_⟩
      · rw [List.length_map,List.length_map]
        exact Nat.le_of_lt (small1000 (by omega))
      · have t1:Tups H' (upd (upd H' b (.tup (sy.letters.map V.str))) f (.lst (((ts.take i).flatMap Sn.letters).map V.str ++ sy.letters.map V.str))):=(Tups.new hb _).trans (Tups.lst hf2 _)
        have e:(ts.take (i + 1)).flatMap Sn.letters = (ts.take i).flatMap Sn.letters ++ sy.letters:=by rw [take_next hsy,List.flatMap_append,List.flatMap_singleton]
        refine ⟨_,(g.trans (Same.new hb _)).over hf _,by rw [upd_same,e,List.map_append],?_,pd_imp (fun _ _ z=>z.mono t1) hts',by rw [e,List.length_append]; omega,hlt,rfl⟩
        rw [upd_ne (Ne.symm nfl),upd_ne (ne_of_none hl' hb)]
        exact hl'
  · rintro σ H' ⟨f1,g,hf',hl',hts',lq,li,rfl⟩
    rw [List.length_map,← lt,List.take_length] at hf' lq
    refine ⟨_,rfl,q f H' _ g hf hf' (fun x=>?_) (by omega)⟩
    rw [← hle x,List.mem_flatMap]
theorem ok_must_have_mark (T:Txt P w K mg a):FnOk P w K mg base CX0 (k + 1) a.a_must_have_mark a.d_must_have_mark p_must_have_mark (spMustMark K):=by
  refine T.f_must_have_mark.F.ok sc_must_have_mark (fun vs H Q E h=>?_) (fun cdv A outer s H vs Q E hr h=>?_)
  · obtain ⟨l,x,os,rfl,_⟩:=h
    rfl
  obtain ⟨l,x,os,rfl,hO,hx,q⟩:=h
  refine ⟨_,(pss_one (ps_if (pt_cmpR op_notIn_seq (pv 1) (pv 0) (by with_unfolding_all rfl)) (pss_one ps_never) pss_nil)),?_⟩
  refine ⟨_,rfl,_,rfl,l,_,rfl,.inl hO,rfl,flat_strs _,_,rfl,?_⟩
  have e:(if true = true then !inV (.str x) (os.map V.str) else inV (.str x) (os.map V.str)) = false:=by
    rw [if_pos rfl,inV_strs,decide_eq_true hx]; rfl
  rw [e]
  exact iteF q
theorem ok_must_have_marks (T:Txt P w K mg a) (G_letters_in:FnOk P w K mg base CX0 k a.a_letters_in a.d_letters_in p_letters_in spLettersIn) (G_must_have_mark:FnOk P w K mg base CX0 k a.a_must_have_mark a.d_must_have_mark p_must_have_mark (spMustMark K)):FnOk P w K mg base CX0 (k + 1) a.a_must_have_marks a.d_must_have_marks p_must_have_marks (spMustMarks K):=by
  refine T.f_must_have_marks.F.ok sc_must_have_marks (fun vs H Q E h=>?_) (fun cdv A outer s H vs Q E hr h=>?_)
  · obtain ⟨l,p,os,s,rfl,_⟩:=h
    rfl
  obtain ⟨l,p,os,sn,rfl,hO,isp,hc,hin,q⟩:=h
  refine ⟨_,(pss_one (ps_for PassesOwn.never rfl (pi_list (pe_callD G_letters_in hr T.f_letters_in (pa_cons (pv 1) pa_nil))) (pg_name (i:=2) sc_must_have_marks.nd rfl (Or.inl rfl)) (pss_one (ps_expr (pe_callD G_must_have_mark hr T.f_must_have_mark (pa_cons (pv 0) (pa_cons (pv 2) pa_nil))))))),?_⟩
  refine ⟨_,rfl,p,sn,rfl,isp,hc,fun f H1 xs g1 hn hl hmem hxl=>?_⟩
  refine ⟨f,rfl,⟨_,SqL.of hl⟩,?_⟩
  refine for_list (xs:=xs.map V.str) (fun i σ H'=>∃ f1:Option V,H' = H1∧σ = [some (.ref l),some (.ref p),f1]) ⟨_,rfl,rfl⟩ ?_ ?_ ?_
  · rintro i σ H' _ ⟨f1,rfl,_⟩
    exact SqL.of hl
  · rintro i x σ H' hx ⟨f1,rfl,rfl⟩
    rw [List.getElem?_map] at hx
    cases ho:xs[i]? with
    | none=>rw [ho] at hx; cases hx
    | some y =>
      rw [ho] at hx
      cases hx
      have hy:y∈os:=(Sn.inO_iff sn).mp hin y ((hmem y).mp (List.mem_of_getElem? ho))
      exact ⟨_,rfl,_,rfl,l,y,os,rfl,g1.seq hO,hy,_,rfl,rfl⟩
  · rintro σ H' ⟨f1,rfl,rfl⟩
    exact q _ g1
theorem ok_is_row (T:Txt P w K mg a):FnOk P w K mg base CX0 (k + 1) a.a_is_row a.d_is_row p_is_row (spIsRow K):=by
  refine T.f_is_row.F.ok sc_is_row (fun vs H Q E h=>?_) (fun cdv A outer s H vs Q E hr h=>?_)
  · obtain ⟨l,r,xs,ns,rfl,_⟩:=h
    rfl
  obtain ⟨l,r,xs,ns,rfl,hl,hq,hz,q⟩:=h
  refine ⟨_,(pss_one (ps_ret (pe_and (pe_cmpR op_eq (pe_callB call_len_seq rfl T.n_len bt_len (pa_cons (pv 1) pa_nil)) (pe_callB call_len_seq rfl T.n_len bt_len (pa_cons (pv 0) pa_nil)) (nomark _)) (pe_one (pe_callB (call_all rfl) rfl T.n_all bt_all (pa_cons (pe_lc0 (osc:=defScope S_is_row) (js:=[]) rfl (by show LcOk _ _ "value" []; exact lco (by decide +kernel)) rfl (pi_list (pv 1)) (by show ∀ j∈([]:List Nat),j < 2; decide) (fun cl C s₂ H₂ fp=>(pe_cmpR (op_inK (K:=K) rfl) (pv 0) (pe_tup (pa_cons pe_int (pa_cons pe_int pa_nil))) (by with_unfolding_all rfl)))) pa_nil)))))),?_⟩
  have hlen:(ns.map V.int).length = ns.length:=List.length_map _
  refine ⟨_,rfl,r,_,rfl,.inl hq,_,rfl,l,_,rfl,.inl hl,rfl,_,rfl,ite2 (fun c=>?_) (fun c=>?_)⟩
  · have c':ns.length = xs.length:=by
      have:=of_decide_eq_true c
      injection this with this
      rw [hlen] at this; omega
    refine ⟨_,rfl,r,rfl,⟨_,hq⟩,lc_relL (fun x v=>v = (match x with | .int i=>.bl (i == 0 || i == 1) | _=>.non)) hq (by rw [hlen]; exact Nat.le_of_lt (small1000 hz)) ?_ ?_ ?_⟩
    · intro i x H' hx g
      rw [List.getElem?_map] at hx
      cases ho:ns[i]? with
      | none=>rw [ho] at hx; cases hx
      | some y =>
        rw [ho] at hx
        cases hx
        refine ⟨_,rfl,by show 2≤sizeLine; decide,fun p hp=>⟨p,_,rfl,.inr (SqT.of upd_same),rfl,rfl,?_,g.trans (Same.new hp _)⟩⟩
        show V.bl ((0 == y) || ((1 == y) || false)) = V.bl (y == 0 || y == 1)
        have e0:((0:Int) == y) = (y == 0):=by rw [Bool.eq_iff_iff]; simp; exact eq_comm
        have e1:((1:Int) == y) = (y == 1):=by rw [Bool.eq_iff_iff]; simp; exact eq_comm
        rw [e0,e1,Bool.or_false]
    · rintro σ' H' Q1 Q2 hQ ⟨v,e,z,h2⟩
      exact ⟨v,e,z,fun p hp=>let ⟨a1,a2,a3,a4,a5,a6,a7⟩:=h2 p hp; ⟨a1,a2,a3,a4,a5,a6,hQ _ _ a7⟩⟩
    · intro ys H' p hr' g hp
      have e:=pd_map (f:=fun x=>match x with | .int i=>.bl (i == 0 || i == 1) | _=>.non) hr'
      have e2:ys = (ns.map fun i=>(i == 0 || i == 1)).map V.bl:=by rw [e,List.map_map,List.map_map]; rfl
      subst e2
      refine ⟨p,_,rfl,SqL.of upd_same,?_⟩
      have e4:(ns.map fun i=>(i == 0 || i == 1)).all id = rowB xs.length ns:=by
        unfold rowB
        rw [decide_eq_true c',Bool.true_and,List.all_map]
        rfl
      rw [e4]
      exact q _ (g.trans (Same.new hp _))
  · have e4:rowB xs.length ns = false:=by
      unfold rowB
      rw [decide_eq_false (fun z=>c (decide_eq_true (by rw [hlen,z]))),Bool.false_and]
    rw [← e4]
    exact q _ (Same.refl _)
theorem ok_must_be_row (T:Txt P w K mg a) (G_is_row:FnOk P w K mg base CX0 k a.a_is_row a.d_is_row p_is_row (spIsRow K)):FnOk P w K mg base CX0 (k + 1) a.a_must_be_row a.d_must_be_row p_must_be_row (spMustRow K):=by
  refine T.f_must_be_row.F.ok sc_must_be_row (fun vs H Q E h=>?_) (fun cdv A outer s H vs Q E hr h=>?_)
  · obtain ⟨l,r,xs,ns,rfl,_⟩:=h
    rfl
  obtain ⟨l,r,xs,ns,rfl,h1,h2,h3,h4,q⟩:=h
  refine ⟨_,(pss_one (ps_if (pt_not (pt_truth (pe_callD G_is_row hr T.f_is_row (pa_cons (pv 0) (pa_cons (pv 1) pa_nil))) (fun _=>rfl))) (pss_one ps_never) pss_nil)),?_⟩
  refine ⟨_,rfl,_,rfl,l,r,xs,ns,rfl,h1,h2,h3,fun H' g=>⟨_,rfl,?_⟩⟩
  rw [h4]
  exact iteF (q H' g)
theorem ok_table_of_two (T:Txt P w K mg a):FnOk P w K mg base CX0 (k + 1) a.a_table_of_two a.d_table_of_two p_table_of_two spTwo:=by
  refine T.f_table_of_two.F.ok sc_table_of_two (fun vs H Q E h=>?_) (fun cdv A outer s H vs Q E hr h=>?_)
  · obtain ⟨o,N,M,n,f,g,rfl,_⟩:=h
    rfl
  obtain ⟨o,N,M,n,f,g,rfl,hN,hM,q⟩:=h
  refine ⟨_,(pss_cons (ps_if (pt_cmpR op_eq (pv 0) pe_str (nomark _)) (pss_one (ps_ret (pe_op op_andN (pv 1) (pv 2)))) pss_nil)
      (pss_cons (ps_if (pt_cmpR op_eq (pv 0) pe_str (nomark _)) (pss_one (ps_ret (pe_op op_orN (pv 1) (pv 2)))) pss_nil)
      (pss_cons (ps_if (pt_cmpR op_eq (pv 0) pe_str (nomark _)) (pss_one (ps_ret (pe_op op_xorN (pv 1) (pv 2)))) pss_nil)
      (pss_one (ps_ret (pe_op op_orN (pe_op op_xorN (pv 3) (pv 1)) (pv 2))))))),?_⟩
  rcases fin4 o with e | e | e | e
  · subst e
    exact ⟨_,rfl,rfl,_,rfl,ite2 (fun _=>⟨_,rfl,_,rfl,N,M,rfl,rfl,q _ (tab_and hN hM)⟩) (fun c=>absurd (decide_eq_true rfl) c)⟩
  · subst e
    refine ⟨_,rfl,rfl,_,rfl,ite2 (fun c=>absurd c (ne_str (show Str.ofString "or" ≠ Str.ofString "and" by decide +kernel))) (fun _=>?_)⟩
    exact ⟨_,rfl,rfl,_,rfl,ite2 (fun _=>⟨_,rfl,_,rfl,N,M,rfl,rfl,q _ (tab_or hN hM)⟩) (fun c=>absurd (decide_eq_true rfl) c)⟩
  · subst e
    refine ⟨_,rfl,rfl,_,rfl,ite2 (fun c=>absurd c (ne_str (show Str.ofString "either" ≠ Str.ofString "and" by decide +kernel))) (fun _=>?_)⟩
    refine ⟨_,rfl,rfl,_,rfl,ite2 (fun c=>absurd c (ne_str (show Str.ofString "either" ≠ Str.ofString "or" by decide +kernel))) (fun _=>?_)⟩
    exact ⟨_,rfl,rfl,_,rfl,ite2 (fun _=>⟨_,rfl,_,rfl,N,M,rfl,rfl,q _ (tab_xor hN hM)⟩) (fun c=>absurd (decide_eq_true rfl) c)⟩
  · subst e
    refine ⟨_,rfl,rfl,_,rfl,ite2 (fun c=>absurd c (ne_str (show Str.ofString "if" ≠ Str.ofString "and" by decide +kernel))) (fun _=>?_)⟩
    refine ⟨_,rfl,rfl,_,rfl,ite2 (fun c=>absurd c (ne_str (show Str.ofString "if" ≠ Str.ofString "or" by decide +kernel))) (fun _=>?_)⟩
    refine ⟨_,rfl,rfl,_,rfl,ite2 (fun c=>absurd c (ne_str (show Str.ofString "if" ≠ Str.ofString "either" by decide +kernel))) (fun _=>?_)⟩
    refine ⟨_,rfl,_,rfl,_,N,rfl,rfl,_,rfl,_,M,rfl,rfl,q _ (tab_congr (tab_or (tab_xor (tab_all n) hN) hM) fun b _=>?_)⟩
    show ((true != f b) || g b) = (!f b || g b)
    cases f b <;> rfl
theorem ok_table_step {d:Nat} (T:Txt P w K mg a) (G_all_rows:FnOk P w K mg base CX0 k a.a_all_rows a.d_all_rows p_all_rows spAllRows) (G_rows_with:FnOk P w K mg base CX0 k a.a_rows_with a.d_rows_with p_rows_with spRowsWith)
    (G_flipped:FnOk P w K mg base CX0 k a.a_flipped a.d_flipped p_flipped spFlipped) (G_parts_of:FnOk P w K mg base CX0 k a.a_parts_of a.d_parts_of p_parts_of spPartsOf)
    (G_table_of_two:FnOk P w K mg base CX0 k a.a_table_of_two a.d_table_of_two p_table_of_two spTwo)
    (G_table_of:FnOk P w K mg base CX0 k a.a_table_of a.d_table_of p_table_of (spTable K d)):FnOk P w K mg base CX0 (k + 1) a.a_table_of a.d_table_of p_table_of (spTable K (d + 1)):=by
  refine T.f_table_of.F.ok sc_table_of (fun vs H Q E h=>?_) (fun cdv A outer s H vs Q E hr h=>?_)
  · obtain ⟨p,l,sn,os,rfl,_⟩:=h
    rfl
  obtain ⟨p,l,sn,os,rfl,isp,hO,hin,h8,hd,q⟩:=h
  refine ⟨_,(pss_cons (ps_setA 2 sc_table_of.nd (pe_ix ix_tup (pv 0) pe_int (fun _ _=>rfl)))
      (pss_cons (ps_setA 3 sc_table_of.nd (pe_callB call_len_seq rfl T.n_len bt_len (pa_cons (pv 1) pa_nil)))
      (pss_cons (ps_if (pt_cmpR op_eq (pv 2) pe_str (nomark _)) (pss_one (ps_ret pe_int)) pss_nil)
      (pss_cons (ps_if (pt_cmpR op_eq (pv 2) pe_str (nomark _)) (pss_one (ps_ret (pe_callD G_all_rows hr T.f_all_rows (pa_cons (pv 3) pa_nil)))) pss_nil)
      (pss_cons (ps_if (pt_cmpR op_eq (pv 2) pe_str (nomark _)) (pss_one (ps_ret (pe_callD G_rows_with hr T.f_rows_with (pa_cons (pe_bm PySem.F.plainAttrs_list PySem.F.slot_list_index PySem.F.type_list_index mt_index (pv 1) (pa_cons (pe_ix ix_tup (pv 0) pe_int (fun _ _=>rfl)) pa_nil)) (pa_cons (pv 3) pa_nil))))) pss_nil)
      (pss_cons (ps_setLC (tt:=tYes) (i:=4) sc_table_of.nd rfl (Or.inl rfl) (.inl rfl) (osc:=defScope S_table_of) (js:=[1]) rfl (by show LcOk _ _ "part" ["order"]; exact lco (by decide +kernel)) rfl (pi_tup (pe_callD G_parts_of hr T.f_parts_of (pa_cons (pv 0) pa_nil))) (by show ∀ j∈([1]:List Nat),j < 5; decide) (fun cl C s₂ H₂ fp pins s' σ' H' Q I h=>wpAny_pure ⟨H',I,h⟩) (fun cl C s₂ H₂ fp=>(pe_callD G_table_of hr T.f_table_of (pa_cons (pv 0) (pa_cons (pv 1) pa_nil)))) rfl)
      (pss_cons (ps_if (pt_cmpR op_eq (pv 2) pe_str (nomark _)) (pss_one (ps_ret (pe_op op_xorN (pe_callD G_all_rows hr T.f_all_rows (pa_cons (pv 3) pa_nil)) (pe_ix ix_list (pv 4) pe_int (fun _ _=>rfl))))) pss_nil)
      (pss_cons (ps_if (pt_cmpR op_eq (pv 2) pe_str (nomark _)) (pss_one (ps_ret (pe_op op_orN (pe_ix ix_list (pv 4) pe_int (fun _ _=>rfl)) (pe_callD G_flipped hr T.f_flipped (pa_cons (pe_ix ix_list (pv 4) pe_int (fun _ _=>rfl)) (pa_cons (pe_bm PySem.F.plainAttrs_list PySem.F.slot_list_index PySem.F.type_list_index mt_index (pv 1) (pa_cons (pe_ix ix_tup (pv 0) pe_int (fun _ _=>rfl)) pa_nil)) (pa_cons (pv 3) pa_nil))))))) pss_nil)
      (pss_cons (ps_if (pt_cmpR op_eq (pv 2) pe_str (nomark _)) (pss_one (ps_ret (pe_op op_andN (pe_ix ix_list (pv 4) pe_int (fun _ _=>rfl)) (pe_callD G_flipped hr T.f_flipped (pa_cons (pe_ix ix_list (pv 4) pe_int (fun _ _=>rfl)) (pa_cons (pe_bm PySem.F.plainAttrs_list PySem.F.slot_list_index PySem.F.type_list_index mt_index (pv 1) (pa_cons (pe_ix ix_tup (pv 0) pe_int (fun _ _=>rfl)) pa_nil)) (pa_cons (pv 3) pa_nil))))))) pss_nil)
      (pss_one (ps_ret (pe_callD G_table_of_two hr T.f_table_of_two (pa_cons (pv 2) (pa_cons (pe_ix ix_list (pv 4) pe_int (fun _ _=>rfl)) (pa_cons (pe_ix ix_list (pv 4) pe_int (fun _ _=>rfl)) (pa_cons (pe_callD G_all_rows hr T.f_all_rows (pa_cons (pv 3) pa_nil)) pa_nil)))))))))))))))),?_⟩
  have hlen:(os.map V.str).length = os.length:=List.length_map _
  obtain ⟨zs,c1,c2,c3,c4,c5⟩:=sen_cut isp
  have lz:=pd_len c2
  have lp2:=Sn.parts_le sn
  refine ⟨_,rfl,p,_,0,_,rfl,rfl,SqT.of c1,at0,?_⟩
  refine ⟨_,rfl,l,_,rfl,.inl hO,?_⟩
  rw [hlen]
  have comp:∀ {σ:St} {Q2:Addr→Hp→List V→Prop},σ.getD 1 none = some (.ref l)→(∀ (b:Addr) (ys:List V) (H':Hp),Same H H'→H' b = none→ys.length = sn.parts.length→(∀ (j:Nat) v,ys[j]? = some v→∃ t N,sn.parts[j]? = some t∧v = .int (N:Nat)∧TabOf os t N)→Q2 b H' ys) →
      ∀ b0,H b0 = none→∃ W:Nat→Nat→List V→Hp→Prop,(∃ m,W 0 m [] (upd H b0 (.tup (zs.map V.ref))))∧∀ i m ys H,W i m ys H →
        ((Itt K b0).stop i H∧∀ p,H p = none→Q2 p H ys) ∨
        ((Itt K b0).go i H∧ys.length < sizeLine∧∀ x H',(Itt K b0).yld i H x H'→tYes (lcS σ [1] (some x)) H' fun b H2 =>
          if b = true then tCall (spTable K d) [] E0 (tCons (tVar 0) (tCons (tVar 1) tNil)) (lcS σ [1] (some x)) H2 fun v H3=>∃ m',m' < m∧W (i + 1) m' (ys ++ [v]) H3 else ∃ m',m' < m∧W (i + 1) m' ys H2):=by
    intro σ Q2 hσ hQ2 b0 hb0
    have g0:=Same.new hb0 (.tup (zs.map V.ref))
    refine lc_idxT (fun j v=>∃ t N,sn.parts[j]? = some t∧v = .int ((N:Nat):Int)∧TabOf os t N) (SqT.of upd_same) (by rw [List.length_map]; exact Nat.le_of_lt (small1000 (by omega))) ?_ (mono2 (mono_table d)) ?_
    · intro i x H' hx g
      rw [List.getElem?_map] at hx
      cases ho:zs[i]? with
      | none=>rw [ho] at hx; cases hx
      | some y =>
        rw [ho] at hx
        cases hx
        obtain ⟨t,ht,it⟩:=pd_ta c2 ho
        have htm:=List.mem_of_getElem? ht
        have dp:=Sn.depth_parts sn t htm
        refine ⟨_,rfl,.ref l,?_,y,l,t,os,rfl,it.mono (Tups.of (g0.trans g)),(g0.trans g).seq hO,Sn.inO_parts sn hin t htm,h8,by omega,fun N H3 g3 hN=>⟨⟨t,N,ht,rfl,hN⟩,g.trans g3⟩⟩
        show some (σ.getD 1 none) = _
        rw [hσ]
    · intro ys H' pp hl hy g hpp
      exact hQ2 pp ys H' (g0.trans g) hpp (by rw [hl,List.length_map]; exact lz.symm) hy
  cases sn with
  | c0 y =>
    cases y with
    | false=>exact ⟨_,rfl,rfl,_,rfl,ite2 (fun _=>q 0 _ (Same.refl _) (tab_zero _)) (fun c=>absurd (decide_eq_true rfl) c)⟩
    | true =>
      refine ⟨_,rfl,rfl,_,rfl,ite2 (fun c=>absurd c (ne_str (show Str.ofString "yes" ≠ Str.ofString "no" by decide +kernel))) (fun _=>?_)⟩
      exact ⟨_,rfl,rfl,_,rfl,ite2 (fun _=>⟨_,rfl,os.length,rfl,h8,q _ _ (Same.refl _) (tab_all _)⟩) (fun c=>absurd (decide_eq_true rfl) c)⟩
  | mk x =>
    refine ⟨_,rfl,rfl,_,rfl,ite2 (fun c=>absurd c (ne_str (show Str.ofString "mark" ≠ Str.ofString "no" by decide +kernel))) (fun _=>?_)⟩
    refine ⟨_,rfl,rfl,_,rfl,ite2 (fun c=>absurd c (ne_str (show Str.ofString "mark" ≠ Str.ofString "yes" by decide +kernel))) (fun _=>?_)⟩
    obtain ⟨i1,i2,i3⟩:=ix_spec (show x∈os from hin)
    have isp':H p = some (.tup [.str "mark", .str x]):=isp
    exact ⟨_,rfl,rfl,_,rfl,ite2 (fun _=>⟨_,rfl,.inl ⟨rfl,_,hO⟩,_,rfl,p,_,1,_,rfl,rfl,SqT.of isp',at1,l,_,.str x,_,rfl,rfl,hO,rfl,flat_strs _,i1,_,rfl,ix os x,os.length,rfl,i2,h8,fun R hR=>q R _ (Same.refl _) hR⟩) (fun c=>absurd (decide_eq_true rfl) c)⟩
  | nt s1 =>
    refine ⟨_,rfl,rfl,_,rfl,ite2 (fun c=>absurd c (ne_str (show Str.ofString "not" ≠ Str.ofString "no" by decide +kernel))) (fun _=>?_)⟩
    refine ⟨_,rfl,rfl,_,rfl,ite2 (fun c=>absurd c (ne_str (show Str.ofString "not" ≠ Str.ofString "yes" by decide +kernel))) (fun _=>?_)⟩
    refine ⟨_,rfl,rfl,_,rfl,ite2 (fun c=>absurd c (ne_str (show Str.ofString "not" ≠ Str.ofString "mark" by decide +kernel))) (fun _=>?_)⟩
    refine ⟨_,rfl,p,_,_,_,_,rfl,c1,shape_in (.nt s1),c3,fun b0 hb0=>?_⟩
    rw [c5]
    refine ⟨b0,rfl,⟨_,SqT.of upd_same⟩,comp rfl (fun b ys H0 g0 hb0' hyl hy=>?_) b0 hb0⟩
    have hb:=upd_same (H:=H0) (a:=b) (o:=.lst ys)
    have g:=g0.trans (Same.new hb0' (.lst ys))
    obtain ⟨v,rfl⟩:=len1 hyl
    obtain ⟨t,N,ht,rfl,hN⟩:=hy 0 v rfl
    cases ht
    refine ⟨_,rfl,rfl,_,rfl,ite2 (fun _=>⟨_,rfl,os.length,rfl,h8,_,rfl,b,_,0,_,rfl,rfl,SqL.of hb,at0,_,N,rfl,rfl,q _ _ g (tab_congr (tab_xor (tab_all _) hN) fun z _=>?_)⟩) (fun c=>absurd (decide_eq_true rfl) c)⟩
    show (true != s1.val (envB os z)) = !s1.val (envB os z)
    cases s1.val (envB os z) <;> rfl
  | b2 o s1 s2 =>
    have w1:w2 o≠Str.ofString "no" := w2_no o
    have w2':w2 o≠Str.ofString "yes" := w2_yes o
    have w3:w2 o≠Str.ofString "mark" := w2_mark o
    have w4:w2 o≠Str.ofString "not" := w2_not o
    have w5:w2 o≠Str.ofString "some" := w2_some o
    have w6:w2 o≠Str.ofString "each" := w2_each o
    refine ⟨_,rfl,rfl,_,rfl,ite2 (fun c=>absurd c (ne_str w1)) (fun _=>?_)⟩
    refine ⟨_,rfl,rfl,_,rfl,ite2 (fun c=>absurd c (ne_str w2')) (fun _=>?_)⟩
    refine ⟨_,rfl,rfl,_,rfl,ite2 (fun c=>absurd c (ne_str w3)) (fun _=>?_)⟩
    refine ⟨_,rfl,p,_,_,_,_,rfl,c1,shape_in (.b2 o s1 s2),c3,fun b0 hb0=>?_⟩
    rw [c5]
    refine ⟨b0,rfl,⟨_,SqT.of upd_same⟩,comp rfl (fun b ys H0 g0 hb0' hyl hy=>?_) b0 hb0⟩
    have hb:=upd_same (H:=H0) (a:=b) (o:=.lst ys)
    have g:=g0.trans (Same.new hb0' (.lst ys))
    obtain ⟨v,u,rfl⟩:=len2 hyl
    obtain ⟨t,N,ht,rfl,hN⟩:=hy 0 v rfl
    obtain ⟨t',M,ht',rfl,hM⟩:=hy 1 u rfl
    cases ht
    cases ht'
    refine ⟨_,rfl,rfl,_,rfl,ite2 (fun c=>absurd c (ne_str w4)) (fun _=>?_)⟩
    refine ⟨_,rfl,rfl,_,rfl,ite2 (fun c=>absurd c (ne_str w5)) (fun _=>?_)⟩
    refine ⟨_,rfl,rfl,_,rfl,ite2 (fun c=>absurd c (ne_str w6)) (fun _=>?_)⟩
    exact ⟨_,rfl,_,rfl,b,_,0,_,rfl,rfl,SqL.of hb,at0,_,rfl,b,_,1,_,rfl,rfl,SqL.of hb,at1,_,rfl,os.length,rfl,h8,o,N,M,os.length,_,_,rfl,hN,hM,fun R hR=>q R _ g hR⟩
  | q1 o x s1 =>
    obtain ⟨hx,hs1⟩:=hin
    obtain ⟨i1,i2,i3⟩:=ix_spec hx
    cases o with
    | true =>
      refine ⟨_,rfl,rfl,_,rfl,ite2 (fun c=>absurd c (ne_str (show Str.ofString "some" ≠ Str.ofString "no" by decide +kernel))) (fun _=>?_)⟩
      refine ⟨_,rfl,rfl,_,rfl,ite2 (fun c=>absurd c (ne_str (show Str.ofString "some" ≠ Str.ofString "yes" by decide +kernel))) (fun _=>?_)⟩
      refine ⟨_,rfl,rfl,_,rfl,ite2 (fun c=>absurd c (ne_str (show Str.ofString "some" ≠ Str.ofString "mark" by decide +kernel))) (fun _=>?_)⟩
      refine ⟨_,rfl,p,_,_,_,_,rfl,c1,shape_in (.q1 true x s1),c3,fun b0 hb0=>?_⟩
      rw [c5]
      refine ⟨b0,rfl,⟨_,SqT.of upd_same⟩,comp rfl (fun b ys H0 g0 hb0' hyl hy=>?_) b0 hb0⟩
      have hb:=upd_same (H:=H0) (a:=b) (o:=.lst ys)
      have g:=g0.trans (Same.new hb0' (.lst ys))
      obtain ⟨v,rfl⟩:=len1 hyl
      obtain ⟨t,N,ht,rfl,hN⟩:=hy 0 v rfl
      cases ht
      have c1':=g _ _ c1
      refine ⟨_,rfl,rfl,_,rfl,ite2 (fun c=>absurd c (ne_str (show Str.ofString "some" ≠ Str.ofString "not" by decide +kernel))) (fun _=>?_)⟩
      refine ⟨_,rfl,rfl,_,rfl,ite2 (fun _=>?_) (fun c=>absurd (decide_eq_true rfl) c)⟩
      refine ⟨_,rfl,b,_,0,_,rfl,rfl,SqL.of hb,at0,_,rfl,b,_,0,_,rfl,rfl,SqL.of hb,at0,_,rfl,.inl ⟨rfl,_,g.seq hO⟩,_,rfl,p,_,1,_,rfl,rfl,SqT.of c1',at1,l,_,.str x,_,rfl,rfl,g.seq hO,rfl,flat_strs _,i1,_,rfl,N,ix os x,os.length,_,rfl,i2,h8,hN,fun R hR=>⟨N,R,rfl,rfl,q _ _ g (tab_congr (tab_or hN hR) fun z _=>?_)⟩⟩
      exact (val_some hs1 hx z).symm
    | false =>
      refine ⟨_,rfl,rfl,_,rfl,ite2 (fun c=>absurd c (ne_str (show Str.ofString "each" ≠ Str.ofString "no" by decide +kernel))) (fun _=>?_)⟩
      refine ⟨_,rfl,rfl,_,rfl,ite2 (fun c=>absurd c (ne_str (show Str.ofString "each" ≠ Str.ofString "yes" by decide +kernel))) (fun _=>?_)⟩
      refine ⟨_,rfl,rfl,_,rfl,ite2 (fun c=>absurd c (ne_str (show Str.ofString "each" ≠ Str.ofString "mark" by decide +kernel))) (fun _=>?_)⟩
      refine ⟨_,rfl,p,_,_,_,_,rfl,c1,shape_in (.q1 false x s1),c3,fun b0 hb0=>?_⟩
      rw [c5]
      refine ⟨b0,rfl,⟨_,SqT.of upd_same⟩,comp rfl (fun b ys H0 g0 hb0' hyl hy=>?_) b0 hb0⟩
      have hb:=upd_same (H:=H0) (a:=b) (o:=.lst ys)
      have g:=g0.trans (Same.new hb0' (.lst ys))
      obtain ⟨v,rfl⟩:=len1 hyl
      obtain ⟨t,N,ht,rfl,hN⟩:=hy 0 v rfl
      cases ht
      have c1':=g _ _ c1
      refine ⟨_,rfl,rfl,_,rfl,ite2 (fun c=>absurd c (ne_str (show Str.ofString "each" ≠ Str.ofString "not" by decide +kernel))) (fun _=>?_)⟩
      refine ⟨_,rfl,rfl,_,rfl,ite2 (fun c=>absurd c (ne_str (show Str.ofString "each" ≠ Str.ofString "some" by decide +kernel))) (fun _=>?_)⟩
      refine ⟨_,rfl,rfl,_,rfl,ite2 (fun _=>?_) (fun c=>absurd (decide_eq_true rfl) c)⟩
      refine ⟨_,rfl,b,_,0,_,rfl,rfl,SqL.of hb,at0,_,rfl,b,_,0,_,rfl,rfl,SqL.of hb,at0,_,rfl,.inl ⟨rfl,_,g.seq hO⟩,_,rfl,p,_,1,_,rfl,rfl,SqT.of c1',at1,l,_,.str x,_,rfl,rfl,g.seq hO,rfl,flat_strs _,i1,_,rfl,N,ix os x,os.length,_,rfl,i2,h8,hN,fun R hR=>⟨N,R,rfl,rfl,q _ _ g (tab_congr (tab_and hN hR) fun z _=>?_)⟩⟩
      exact (val_each hs1 hx z).symm
theorem ok_table_of (T:Txt P w K mg a) (G_all_rows:FnOk P w K mg base CX0 k a.a_all_rows a.d_all_rows p_all_rows spAllRows) (G_rows_with:FnOk P w K mg base CX0 k a.a_rows_with a.d_rows_with p_rows_with spRowsWith)
    (G_flipped:FnOk P w K mg base CX0 k a.a_flipped a.d_flipped p_flipped spFlipped) (G_parts_of:FnOk P w K mg base CX0 k a.a_parts_of a.d_parts_of p_parts_of spPartsOf)
    (G_table_of_two:FnOk P w K mg base CX0 k a.a_table_of_two a.d_table_of_two p_table_of_two spTwo):∀ d:Nat,FnOk P w K mg base CX0 (k + d) a.a_table_of a.d_table_of p_table_of (spTable K d)
  | 0=>by
    refine ⟨fun vs H Q E h=>?_,fun A outer s H args us vs Q E _ _ _ _ h=>?_⟩
    · obtain ⟨p,l,sn,os,rfl,_⟩:=h
      rfl
    · obtain ⟨p,l,sn,os,_,_,_,_,_,hd,_⟩:=h
      have:=Sn.depth_pos sn
      omega
  | d + 1=>ok_table_step T (G_all_rows.mono (Nat.le_add_right _ _)) (G_rows_with.mono (Nat.le_add_right _ _)) (G_flipped.mono (Nat.le_add_right _ _)) (G_parts_of.mono (Nat.le_add_right _ _)) (G_table_of_two.mono (Nat.le_add_right _ _)) (ok_table_of T G_all_rows G_rows_with G_flipped G_parts_of G_table_of_two d)
theorem ok_value_at (T:Txt P w K mg a):FnOk P w K mg base CX0 (k + 1) a.a_value_at a.d_value_at p_value_at (spValueAt K):=by
  refine T.f_value_at.F.ok sc_value_at (fun vs H Q E h=>?_) (fun cdv A outer s H vs Q E hr h=>?_)
  · obtain ⟨N,n,f,l,r,rfl,_⟩:=h
    rfl
  obtain ⟨N,n,f,l,r,rfl,tb,hq,hl,hn,q⟩:=h
  refine ⟨_,(pss_cons (ps_setA 2 sc_value_at.nd pe_int)
      (pss_cons (ps_for PassesOwn.never rfl (pi_enum rfl T.n_enumerate (pa_cons (pv 1) pa_nil)) (pg_tup rfl (pgs_cons (pg_name (i:=3) sc_value_at.nd rfl (Or.inl rfl)) (pgs_cons (pg_name (i:=4) sc_value_at.nd rfl (Or.inl rfl)) pgs_nil))) (pss_one (ps_setA 2 sc_value_at.nd (pe_op op_orN (pv 2) (pe_op op_shlN (pv 4) (pv 3))))))
      (pss_one (ps_ret (pe_op op_andN (pe_op op_shrN (pv 0) (pv 2)) pe_int))))),?_⟩
  have len:(rowV r).length = n:=by rw [List.length_map]; exact hl
  have two:∀ b:Bool,b.toNat < 2 ^ 10000:=fun b=>lt10k (k:=1) (by cases b <;> decide) (by decide)
  refine ⟨_,rfl,l,rowV r,rfl,hq,?_⟩
  refine for_enum (xs:=rowV r) (fun i σ H'=>Same H H'∧∃ (f1 f2:Option V),σ = [some (.int N),some (.ref l),some (.int (rowBits (r.take i):Nat)),f1,f2]) ⟨Same.refl _,_,_,rfl⟩ ?_ ?_ ?_
  · rintro i σ H' _ ⟨g,_⟩
    exact g.seq hq
  · rintro i x σ H' p hx ⟨g,f1,f2,rfl⟩ hp
    have hi:i < r.length:=by
      have:=(List.getElem?_eq_some_iff.mp hx).1
      rw [List.length_map] at this; exact this
    have ex:x = V.int ((r[i]).toNat:Nat):=by
      rw [List.getElem?_map,List.getElem?_eq_getElem hi] at hx
      exact (Option.some.inj hx).symm
    subst ex
    refine ⟨p,_,rfl,SqT.of upd_same,rfl,_,_,rfl,_,_,rfl,rfl,?_⟩
    have lb:=rowBits_lt (r.take i)
    rw [List.length_take,Nat.min_eq_left (by omega)] at lb
    refine ⟨_,rfl,_,rfl,_,rfl,(r[i]).toNat,i,rfl,rfl,two _,by omega,_,_,rfl,rfl,?_⟩
    refine ⟨g.trans (same_new hp _),some (.int (i:Nat)),some (.int ((r[i]).toNat:Nat)),?_⟩
    have et:r.take (i + 1) = r.take i ++ [r[i]]:=by rw [List.take_succ,List.getElem?_eq_getElem hi]; rfl
    have e2:=rowBits_snoc (r.take i) r[i]
    rw [← et,List.length_take,Nat.min_eq_left (by omega),← or_of_lt lb] at e2
    rw [e2]
    rfl
  · rintro σ H' ⟨g,f1,f2,rfl⟩
    rw [len,← hl,List.take_length]
    refine ⟨_,rfl,_,rfl,_,_,rfl,rfl,_,1,rfl,rfl,?_⟩
    have lb:=rowBits_lt r
    have e:(N / 2 ^ rowBits r &&& 1) = (f (rowBits r)).toNat:=by
      rw [Nat.and_one_is_mod,tb0,Nat.testBit_div_two_pow,Nat.zero_add,tb (rowBits r),← hl,decide_eq_true lb,Bool.true_and]
    show Q (.int ((N / 2 ^ rowBits r &&& 1:Nat):Int)) H'
    rw [e]
    exact q H' g
theorem ok_worth (T:Txt P w K mg a) (G_must_be_order:FnOk P w K mg base CX0 k a.a_must_be_order a.d_must_be_order p_must_be_order (spMustOrder K)) (G_must_be_sentence:FnOk P w K mg base CX0 k a.a_must_be_sentence a.d_must_be_sentence p_must_be_sentence spMustSen)
    (G_must_have_marks:FnOk P w K mg base CX0 k a.a_must_have_marks a.d_must_have_marks p_must_have_marks (spMustMarks K)) (G_must_be_row:FnOk P w K mg base CX0 k a.a_must_be_row a.d_must_be_row p_must_be_row (spMustRow K))
    (G_table_of:FnOk P w K mg base CX0 k a.a_table_of a.d_table_of p_table_of (spTable K 24)) (G_value_at:FnOk P w K mg base CX0 k a.a_value_at a.d_value_at p_value_at (spValueAt K)):FnOk P w K mg base CX0 (k + 1) a.a_worth a.d_worth p_worth (spWorth K):=by
  refine T.f_worth.F.ok sc_worth (fun vs H Q E h=>?_) (fun cdv A outer s H vs Q E hr h=>?_)
  · obtain ⟨p,l,rl,sn,os,r,rfl,_⟩:=h
    rfl
  obtain ⟨p,l,rl,sn,os,r,rfl,isp,hO,hR,ho,hin,hc,hd,hrl,q⟩:=h
  refine ⟨_,(pss_cons (ps_expr (pe_callD G_must_be_order hr T.f_must_be_order (pa_cons (pv 1) pa_nil)))
      (pss_cons (ps_expr (pe_callD G_must_be_sentence hr T.f_must_be_sentence (pa_cons (pv 0) pa_nil)))
      (pss_cons (ps_expr (pe_callD G_must_have_marks hr T.f_must_have_marks (pa_cons (pv 1) (pa_cons (pv 0) pa_nil))))
      (pss_cons (ps_expr (pe_callD G_must_be_row hr T.f_must_be_row (pa_cons (pv 1) (pa_cons (pv 2) pa_nil))))
      (pss_one (ps_ret (pe_callD G_value_at hr T.f_value_at (pa_cons (pe_callD G_table_of hr T.f_table_of (pa_cons (pv 0) (pa_cons (pv 1) pa_nil))) (pa_cons (pv 2) pa_nil))))))))),?_⟩
  have hlen:(os.map V.str).length = os.length:=List.length_map _
  have hlt:sn.inO letts:=(Sn.inO_iff sn).mpr fun x hx=>ho.mem x ((Sn.inO_iff sn).mp hin x hx)
  refine ⟨_,rfl,l,os,rfl,hO,ho,fun H1 g1=>?_⟩
  refine ⟨_,rfl,p,sn,rfl,isp.mono (Tups.of g1),hlt,hc,hd,fun H2 g2=>?_⟩
  have g12:=g1.trans g2
  refine ⟨_,rfl,_,rfl,l,p,os,sn,rfl,g12.seq hO,isp.mono (Tups.of g12),by omega,hin,fun H3 g3=>?_⟩
  have g13:=g12.trans g3
  have hR':=hR
  rw [rowV_ints] at hR'
  refine ⟨_,rfl,_,rfl,l,rl,_,_,rfl,g13.seq hO,g13.seq hR',by rw [List.length_map,hrl]; exact Nat.le_trans ho.le (by decide),by rw [hlen]; exact rowB_bools r hrl,fun H4 g4=>?_⟩
  have g14:=g13.trans g4
  refine ⟨_,rfl,_,rfl,p,l,sn,os,rfl,isp.mono (Tups.of g14),g14.seq hO,hin,ho.le,hd,fun N H5 g5 hN=>?_⟩
  have g15:=g14.trans g5
  exact ⟨_,rfl,N,os.length,_,rl,r,rfl,hN,g15.seq hR,hrl,ho.le,fun H6 g6=>q _ (g15.trans g6)⟩
end
end K05
namespace K05
open PySem L2 Sen
section
variable {P:Program} {w:World} {K:PySem.W.Frag} {mg:Str→Option Value} {base:Heap} {a:Ad} {k:Nat}
theorem ok_held_at (T:Txt P w K mg a) (G_rows_with:FnOk P w K mg base CX0 k a.a_rows_with a.d_rows_with p_rows_with spRowsWith) (G_flipped:FnOk P w K mg base CX0 k a.a_flipped a.d_flipped p_flipped spFlipped):FnOk P w K mg base CX0 (k + 1) a.a_held_at a.d_held_at p_held_at spHeldAt:=by
  refine T.f_held_at.F.ok sc_held_at (fun vs H Q E h=>?_) (fun cdv A outer s H vs Q E hr h=>?_)
  · obtain ⟨N,p,n,v,f,rfl,_⟩:=h
    rfl
  obtain ⟨N,p,n,v,f,rfl,hp,hn,tb,q⟩:=h
  refine ⟨_,(pss_cons (ps_setA 4 sc_held_at.nd (pe_op op_andN (pv 0) (pe_callD G_rows_with hr T.f_rows_with (pa_cons (pv 1) (pa_cons (pv 3) pa_nil)))))
      (pss_cons (ps_setA 5 sc_held_at.nd (pe_ifExp (pt_cmpR op_eq (pv 2) pe_int (nomark _)) (pv 4) (pe_op op_xorN (pv 0) (pv 4))))
      (pss_one (ps_ret (pe_op op_orN (pv 5) (pe_callD G_flipped hr T.f_flipped (pa_cons (pv 5) (pa_cons (pv 1) (pa_cons (pv 3) pa_nil))))))))),?_⟩
  refine ⟨_,rfl,_,rfl,_,rfl,p,n,rfl,hp,hn,fun R tr=>?_⟩
  refine ⟨N,R,rfl,rfl,?_⟩
  have o:=Sen.tab_and tb tr
  refine ⟨_,rfl,rfl,_,rfl,?_⟩
  cases v with
  | true =>
    refine ite2 (fun _=>?_) (fun c=>absurd (decide_eq_true rfl) c)
    refine ⟨_,rfl,?_⟩
    refine ⟨_,rfl,_,rfl,_,rfl,_,rfl,N &&& R,p,n,_,rfl,hp,hn,o,fun R2 t2=>?_⟩
    refine ⟨_,_,rfl,rfl,q _ (tab_congr (Sen.tab_or o t2) fun b hb=>?_)⟩
    show ((f b && b.testBit p) || (f (putBit b p (!b.testBit p)) && (putBit b p (!b.testBit p)).testBit p)) = f (putBit b p true)
    rw [putBit_bit,if_pos rfl]
    cases e:b.testBit p
    · simp
    · rw [← e,Bdd.putBit_self,e]; simp
  | false =>
    refine ite2 (fun c=>absurd (of_decide_eq_true c) (fun z=>by injection z with z; revert z; decide)) (fun _=>?_)
    have z:=Sen.tab_xor tb o
    refine ⟨_,rfl,_,rfl,N,N &&& R,rfl,rfl,?_⟩
    refine ⟨_,rfl,_,rfl,_,rfl,_,rfl,N ^^^ (N &&& R),p,n,_,rfl,hp,hn,z,fun R2 t2=>?_⟩
    refine ⟨_,_,rfl,rfl,q _ (tab_congr (Sen.tab_or z t2) fun b hb=>?_)⟩
    show ((f b != (f b && b.testBit p)) || (f (putBit b p (!b.testBit p)) != (f (putBit b p (!b.testBit p)) && (putBit b p (!b.testBit p)).testBit p))) = f (putBit b p false)
    rw [putBit_bit,if_pos rfl]
    cases e:b.testBit p
    · rw [← e,Bdd.putBit_self,e]; simp
    · simp
theorem ok_hangs_on (T:Txt P w K mg a) (G_flipped:FnOk P w K mg base CX0 k a.a_flipped a.d_flipped p_flipped spFlipped):FnOk P w K mg base CX0 (k + 1) a.a_hangs_on a.d_hangs_on p_hangs_on spHangs:=by
  refine T.f_hangs_on.F.ok sc_hangs_on (fun vs H Q E h=>?_) (fun cdv A outer s H vs Q E hr h=>?_)
  · obtain ⟨N,p,n,f,rfl,_⟩:=h
    rfl
  obtain ⟨N,p,n,f,rfl,hp,hn,tb,q⟩:=h
  refine ⟨_,(pss_one (ps_ret (pe_cmpR op_ne (pe_callD G_flipped hr T.f_flipped (pa_cons (pv 0) (pa_cons (pv 1) (pa_cons (pv 2) pa_nil)))) (pv 0) (nomark _)))),?_⟩
  refine ⟨_,rfl,_,rfl,_,rfl,N,p,n,f,rfl,hp,hn,tb,fun R tr=>?_⟩
  refine ⟨_,rfl,rfl,?_⟩
  refine q _ (fun e=>?_) (fun e=>?_)
  · have e1:R = N:=by
      have z:V.int (R:Nat) = V.int (N:Nat):=of_decide_eq_true (by simpa using e)
      injection z with z
      omega
    subst e1
    refine Bdd.Free.of_flip fun b hb=>?_
    rw [← Bdd.tab_val tr hb,Bdd.tab_val tb hb]
  · refine Classical.byContradiction fun no=>?_
    have e1:R = N:=Bdd.tab_inj tr tb fun b hb=>by
      refine Classical.byContradiction fun ne=>no ⟨b,hb,fun z=>ne ?_⟩
      show f (putBit b p (!b.testBit p)) = f b
      cases e:b.testBit p
      · rw [Bool.not_false,← z,← e,Bdd.putBit_self]
      · rw [Bool.not_true,z,← e,Bdd.putBit_self]
    subst e1
    rw [decide_eq_true rfl] at e
    cases e
theorem ok_first_place (T:Txt P w K mg a) (G_hangs_on:FnOk P w K mg base CX0 k a.a_hangs_on a.d_hangs_on p_hangs_on spHangs):FnOk P w K mg base CX0 (k + 1) a.a_first_place a.d_first_place p_first_place spFirst:=by
  refine T.f_first_place.F.ok sc_first_place (fun vs H Q E h=>?_) (fun cdv A outer s H vs Q E hr h=>?_)
  · obtain ⟨N,n,f,rfl,_⟩:=h
    rfl
  obtain ⟨N,n,f,rfl,hn,tb,q⟩:=h
  refine ⟨_,(pss_cons (ps_setA 2 sc_first_place.nd pe_int)
      (pss_cons (ps_while PassesOwn.never (PW.pt (pw_and (pt_cmpR op_lt (pv 2) (pv 1) (nomark _)) (pw_and1 (pt_not (pt_truth (pe_callD G_hangs_on hr T.f_hangs_on (pa_cons (pv 0) (pa_cons (pv 2) (pa_cons (pv 1) pa_nil)))) (fun _=>rfl)))))) (pss_one (ps_aug (i:=2) sc_first_place.nd rfl (Or.inl rfl) pe_int iop_add)))
      (pss_one (ps_ret (pv 2))))),?_⟩
  refine ⟨fun m σ H'=>∃ p:Nat,m = n - p∧H' = H∧p≤n∧(∀ i,i < p→Bdd.Free n f i)∧σ = [some (.int N),some (.int n),some (.int p)],⟨_,0,rfl,rfl,Nat.zero_le _,fun i hi=>absurd hi (Nat.not_lt_zero _),rfl⟩,?_⟩
  rintro m σ H' ⟨p,rfl,rfl,hp,fr,rfl⟩
  refine ⟨_,rfl,_,rfl,_,_,rfl,rfl,_,rfl,ite2 (fun c=>?_) (fun c=>?_)⟩
  · have hpn:p < n:=by have:=of_decide_eq_true c; omega
    refine ⟨_,rfl,_,rfl,_,rfl,N,p,n,f,rfl,hpn,hn,tb,fun b hf ht=>?_⟩
    cases b with
    | false =>
      refine ⟨_,rfl,ite2 (fun c2=>?_) (fun c2=>absurd rfl c2)⟩
      refine ⟨_,fun σ' H2 h=>h,?_⟩
      refine ⟨_,rfl,_,_,rfl,rfl,n - (p + 1),by omega,p + 1,rfl,rfl,hpn,fun i hi=>?_,rfl⟩
      by_cases e:i = p
      · subst e
        exact hf rfl
      · exact fr i (by omega)
    | true =>
      refine ⟨_,rfl,ite2 (fun c2=>absurd c2 Bool.false_ne_true) (fun c2=>?_)⟩
      exact ⟨_,rfl,q p hp fr fun _=>ht rfl⟩
  · refine ⟨_,rfl,q p hp fr fun h=>absurd (decide_eq_true (by omega)) c⟩
theorem ok_Book_room_step {d:Nat} (T:Txt P w K mg a) (G_first_place:FnOk P w K mg base CX0 k a.a_first_place a.d_first_place p_first_place spFirst) (G_held_at:FnOk P w K mg base CX0 k a.a_held_at a.d_held_at p_held_at spHeldAt)
    (G_Book_room_with:FnOk P w K mg base CX0 k a.a_Book_room_with a.d_Book_room_with p_Book_room_with (spRoomWith a.a_Book d)):FnOk P w K mg base CX0 (k + 1) a.a_Book_room_with a.d_Book_room_with p_Book_room_with (spRoomWith a.a_Book (d + 1)):=by
  refine T.f_Book_room_with.F.ok sc_Book_room_with (fun vs H Q E h=>?_) (fun cdv A outer s H vs Q E hr h=>?_)
  · obtain ⟨b,os,rs,F,t,u,f,rfl,_⟩:=h
    rfl
  obtain ⟨b,os,rs,F,t,u,f,rfl,hB,hlen,hu,hd,tb,fr,q⟩:=h
  refine ⟨_,(pss_cons (ps_if (pt_cmp (pc_dnotin (hu_of hr) (pv 1) (pe_fld (pv 0) rfl))) (pss_cons (ps_setA 2 sc_Book_room_with.nd (pe_callB call_len_seq rfl T.n_len bt_len (pa_cons (pe_fld (pv 0) rfl) pa_nil)))
      (pss_cons (ps_setA 3 sc_Book_room_with.nd (pe_callD G_first_place hr T.f_first_place (pa_cons (pv 1) (pa_cons (pv 2) pa_nil))))
      (pss_cons (ps_setA 4 sc_Book_room_with.nd (pe_methD (pv 0) T.c_Book T.f_Book_room_with G_Book_room_with hr (pa_cons (pe_callD G_held_at hr T.f_held_at (pa_cons (pv 1) (pa_cons (pv 3) (pa_cons pe_int (pa_cons (pv 2) pa_nil))))) pa_nil)))
      (pss_cons (ps_setA 5 sc_Book_room_with.nd (pe_methD (pv 0) T.c_Book T.f_Book_room_with G_Book_room_with hr (pa_cons (pe_callD G_held_at hr T.f_held_at (pa_cons (pv 1) (pa_cons (pv 3) (pa_cons pe_int (pa_cons (pv 2) pa_nil))))) pa_nil)))
      (pss_cons (ps_dput (hu_of hr) (pe_fld (pv 0) rfl) (pv 1) (pe_callB call_len_seq rfl T.n_len bt_len (pa_cons (pe_fld (pv 0) rfl) pa_nil)) rfl)
      (pss_cons (ps_expr (pe_bm PySem.F.plainAttrs_list PySem.F.slot_list_append PySem.F.type_list_append mt_append (pe_fld (pv 0) rfl) (pa_cons (pe_tup (pa_cons (pv 3) (pa_cons (pv 4) (pa_cons (pv 5) pa_nil)))) pa_nil)))
      (pss_one (ps_expr (pe_bm PySem.F.plainAttrs_list PySem.F.slot_list_append PySem.F.type_list_append mt_append (pe_fld (pv 0) rfl) (pa_cons (pv 1) pa_nil)))))))))) pss_nil)
      (pss_one (ps_ret (pe_dget (hu_of hr) (pe_fld (pv 0) rfl) (pv 1) (fun _ _=>rfl))))),?_⟩
  have hB0:=hB
  obtain ⟨dx,ml,rl,tl,nd,rv,ts,kvs,h⟩:=hB
  have n8:os.length≤8:=h.ord.le
  have hml:(os.map V.str).length = os.length:=List.length_map _
  have pw:2 ^ (d + 1) = 2 ^ d + 2 ^ d:=by rw [Nat.pow_succ]; omega
  have pd:1≤2 ^ d:=Nat.one_le_two_pow
  have pn:2 ^ os.length≤256:=Sen.two8 n8
  refine ⟨_,rfl,_,rfl,b,a.a_Book,dx,_,_,rfl,h.hb,T.c_Book,T.na_Book_numbers,rfl,nd,_,rfl,DGet.k (k:=.inl (t:Int)) h.hd,?_⟩
  by_cases hm:t∈ts
  · obtain ⟨j,hj,ej⟩:=List.getElem_of_mem hm
    have ej':ts[j]? = some t:=by rw [List.getElem?_eq_getElem hj,ej]
    have ev:=h.nums.get j t ej'
    have z:=DGet.k (k:=.inl (t:Int)) h.hd
    rw [ev] at z
    rw [ev]
    refine ⟨_,rfl,iteF ?_⟩
    refine ⟨_,rfl,b,a.a_Book,dx,_,_,rfl,h.hb,T.c_Book,T.na_Book_numbers,rfl,_,rfl,nd,_,rfl,z,?_⟩
    refine q j rs H (fun x o e _=>e) (fun _ _ e=>e) hB0 (.refl _) (by rw [← h.tabs.len]; exact hj) (h.tabs.find h.bk ej' tb) (by omega) fun j h1 h2=>by omega
  · have ev:=h.nums.non t hm
    rw [ev]
    refine ⟨_,rfl,iteT ?_⟩
    refine ⟨_,rfl,b,a.a_Book,dx,_,_,rfl,h.hb,T.c_Book,T.na_Book_marks,rfl,ml,_,rfl,.inl (SqL.of h.hm),?_⟩
    rw [hml]
    refine ⟨_,rfl,_,rfl,t,os.length,f,rfl,n8,tb,fun p hp0 frp dep=>?_⟩
    have hp:p < os.length:=by
      refine Nat.lt_of_le_of_ne hp0 fun e=>hm ?_
      subst e
      have cs:=Bdd.const_of_free frp
      have two:=Bdd.len2 h.bk
      cases hf:f 0 with
      | false=>exact List.mem_of_getElem? (h.tabs.same (j:=0) (by omega) tb fun r=>by rw [cs _ (Bdd.bits_lt _ _),hf]; rfl)
      | true=>exact List.mem_of_getElem? (h.tabs.same (j:=1) (by omega) tb fun r=>by rw [cs _ (Bdd.bits_lt _ _),hf]; exact Bdd.yes_yes h.bk r)
    have hup:u≤p:=by
      refine Nat.le_of_not_lt fun hlt=>?_
      obtain ⟨c,hc,hne⟩:=dep hp
      exact hne (by rw [fr p hlt c hc,fr p hlt c hc])
    have fre:∀ (v:Bool) i,i < p + 1→Bdd.Free os.length (fun c=>f (putBit c p v)) i:=fun v i hi c hc v'=>by
      show f (putBit (putBit c i v') p v) = f (putBit c p v)
      by_cases e:i = p
      · subst e
        congr 1
        refine Bdd.eq_bits (putBit_lt (putBit_lt hc hp) hp) (putBit_lt hc hp) fun j _=>?_
        rw [putBit_bit,putBit_bit,putBit_bit]
        by_cases e:j = i
        · rw [if_pos e,if_pos e]
        · rw [if_neg e,if_neg e,if_neg e]
      · rw [← frp i (by omega) _ (putBit_lt (v:=v) hc hp) v']
        congr 1
        refine Bdd.eq_bits (putBit_lt (putBit_lt hc (by omega)) hp) (putBit_lt (putBit_lt hc hp) (by omega)) fun j _=>?_
        rw [putBit_bit,putBit_bit,putBit_bit,putBit_bit]
        by_cases e1:j = p
        · rw [if_pos e1,if_pos e1,if_neg (by omega)]
        · rw [if_neg e1,if_neg e1]
    refine ⟨_,rfl,b,dx,_,rfl,h.hb,rfl,_,rfl,_,rfl,_,rfl,t,p,os.length,false,f,rfl,hp,n8,tb,fun R0 tr0=>?_⟩
    refine ⟨b,os,rs,F,R0,p + 1,_,rfl,hB0,by omega,hp,by omega,tr0,fre false,fun k0 rs1 H1 aw1 tu1 hB1 gr1 lt1 y1 ln1 lv1=>?_⟩
    have hB1':=hB1
    obtain ⟨dx1,ml1,rl1,tl1,nd1,rv1,ts1,kvs1,h1⟩:=hB1
    refine ⟨_,rfl,b,dx1,_,rfl,h1.hb,rfl,_,rfl,_,rfl,_,rfl,t,p,os.length,true,f,rfl,hp,n8,tb,fun R1 tr1=>?_⟩
    refine ⟨b,os,rs1,F,R1,p + 1,_,rfl,hB1',by omega,hp,by omega,tr1,fre true,fun k1 rs2 H2 aw2 tu2 hB2 gr2 lt2 y2 ln2 lv2=>?_⟩
    obtain ⟨dx2,ml2,rl2,tl2,nd2,rv2,ts2,kvs2,h2⟩:=hB2
    have lt1':k0 < rs2.length:=Nat.lt_of_lt_of_le lt1 gr2.len
    have y1':∀ r,Bdd.yes rs2 k0 r = f (putBit (Bdd.bits r os.length) p false):=fun r=>by rw [gr2.yes h1.bk lt1]; exact y1 r
    have g02:=gr1.trans gr2
    have lrs:=g02.len
    have lvs:∀ j,rs.length≤j→j < rs2.length→p < Bdd.lev os.length rs2 j:=fun j a1 a2=>by
      by_cases hj:j < rs1.length
      · rw [gr2.lev hj]; exact lv1 j a1 hj
      · exact lv2 j (by omega) a2
    have old:∀ j,j < rs.length→¬ ∀ r,Bdd.yes rs2 j r = f (Bdd.bits r os.length):=fun j hj hy=>hm (List.mem_of_getElem? (h.tabs.same hj tb fun r=>by rw [← g02.yes h.bk hj]; exact hy r))
    obtain ⟨B',yn⟩:=Bdd.room_new h2.bk hp lt1' lt2 y1' y2 frp (dep hp) old lvs
    have hn2:t ∉ ts2:=fun hm2=>by
      obtain ⟨j,hj,ej⟩:=List.getElem_of_mem hm2
      have ej':ts2[j]? = some t:=by rw [List.getElem?_eq_getElem hj,ej]
      have hjr:j < rs2.length:=by rw [← h2.tabs.len]; exact hj
      have hy:=h2.tabs.find h2.bk ej' tb
      by_cases hjo:j < rs.length
      · exact old j hjo hy
      · obtain ⟨c,hc,hne⟩:=dep hp
        have lv:=lvs j (by omega) hjr
        refine hne ?_
        have a1:=hy (Bdd.put (Bdd.rowN c) p false)
        have a2:=hy (Bdd.put (Bdd.rowN c) p true)
        rw [Bdd.yes_put h2.bk hjr lv,Bdd.bits_put hp,Bdd.bits_rowN hc] at a1 a2
        exact a1.symm.trans a2
    have l2:=h2.len
    have s2:rs2.length < sizeLine:=Nat.lt_of_lt_of_le (show rs2.length < 9000001 by omega) (by decide)
    refine ⟨_,rfl,b,a.a_Book,dx2,_,_,rfl,h2.hb,T.c_Book,T.na_Book_rooms,rfl,rl2,_,rfl,.inl (SqL.of h2.hr),?_⟩
    rw [l2]
    refine ⟨_,rfl,b,a.a_Book,dx2,_,_,rfl,h2.hb,T.c_Book,T.na_Book_numbers,rfl,_,rfl,nd2,_,rfl,DPut.k (k:=.inl (t:Int)) h2.hd (by have:=h2.nums.len; have:=h2.tabs.len; omega),?_⟩
    have nb:nd2≠b:=ne_of h2.hd h2.hb (by intro z; cases z)
    have nm:nd2≠ml2:=ne_of h2.hd h2.hm (by intro z; cases z)
    have nr:nd2≠rl2:=ne_of h2.hd h2.hr (by intro z; cases z)
    have nt:nd2≠tl2:=ne_of h2.hd h2.ht (by intro z; cases z)
    have br:b≠rl2:=ne_of h2.hb h2.hr (by intro z; cases z)
    have bt:b≠tl2:=ne_of h2.hb h2.ht (by intro z; cases z)
    generalize hO3:HO.dK (putK kvs2 (Sum.inl (t:Int)) (V.int (rs2.length:Nat))) = o3
    have b3:upd H2 nd2 o3 b = some (.ins a.a_Book dx2 (bookFs ml2 rl2 tl2 nd2)):=by rw [upd_ne (Ne.symm nb)]; exact h2.hb
    have r3:upd H2 nd2 o3 rl2 = some (.lst rv2):=by rw [upd_ne (Ne.symm nr)]; exact h2.hr
    refine ⟨_,rfl,b,a.a_Book,dx2,_,_,rfl,b3,T.c_Book,T.na_Book_rooms,rfl,.inl ⟨rfl,_,SqL.of r3⟩,?_⟩
    refine ⟨_,rfl,_,rfl,_,rfl,by show 3≤sizeLine; decide,fun q4 hq4=>?_⟩
    generalize hO4:HO.tup [V.int (p:Nat),V.int (k0:Nat),V.int (k1:Nat)] = o4
    have r4:upd (upd H2 nd2 o3) q4 o4 rl2 = some (.lst rv2):=by rw [upd_ne (ne_of_none r3 hq4)]; exact r3
    refine ⟨rl2,_,_,rfl,rfl,r4,by rw [l2]; exact s2,?_⟩
    have b4:upd (upd H2 nd2 o3) q4 o4 b = some (.ins a.a_Book dx2 (bookFs ml2 rl2 tl2 nd2)):=by rw [upd_ne (ne_of_none b3 hq4)]; exact b3
    have t3:upd H2 nd2 o3 tl2 = some (.lst (ts2.map fun t=>V.int (t:Nat))):=by rw [upd_ne (Ne.symm nt)]; exact h2.ht
    have t4:upd (upd H2 nd2 o3) q4 o4 tl2 = some (.lst (ts2.map fun t=>V.int (t:Nat))):=by rw [upd_ne (ne_of_none t3 hq4)]; exact t3
    have m3:upd H2 nd2 o3 ml2 = some (.lst (os.map V.str)):=by rw [upd_ne (Ne.symm nm)]; exact h2.hm
    have m4:upd (upd H2 nd2 o3) q4 o4 ml2 = some (.lst (os.map V.str)):=by rw [upd_ne (ne_of_none m3 hq4)]; exact m3
    have n3:upd H2 nd2 o3 nd2 = some o3:=upd_same
    have n4:upd (upd H2 nd2 o3) q4 o4 nd2 = some o3:=by rw [upd_ne (ne_of_none n3 hq4)]; exact n3
    have qr:q4≠rl2:=Ne.symm (ne_of_none r3 hq4)
    have qt:q4≠tl2:=Ne.symm (ne_of_none t3 hq4)
    have q4':upd (upd H2 nd2 o3) q4 o4 q4 = some o4:=upd_same
    have tu4:Tups H2 (upd (upd H2 nd2 o3) q4 o4):=fun x xs e=>by
      have e3:upd H2 nd2 o3 x = some (.tup xs):=by rw [upd_ne (ne_of e h2.hd (by intro z; cases z))]; exact e
      rw [upd_ne (ne_of_none e3 hq4)]; exact e3
    have aw4:∀ x o,H2 x = some o→¬ F x→upd (upd H2 nd2 o3) q4 o4 x = some o:=fun x o e nf=>by
      have e3:upd H2 nd2 o3 x = some o:=by rw [upd_ne (fun z=>nf ((h2.ft x).mpr (.inr (.inr (.inr (.inr z))))))]; exact e
      rw [upd_ne (ne_of_none e3 hq4)]; exact e3
    generalize upd (upd H2 nd2 o3) q4 o4 = H4 at b4 t4 m4 n4 r4 q4' tu4 aw4
    generalize hO5:HO.lst (rv2 ++ [V.ref q4]) = o5
    have b5:upd H4 rl2 o5 b = some (.ins a.a_Book dx2 (bookFs ml2 rl2 tl2 nd2)):=by rw [upd_ne br]; exact b4
    have t5:upd H4 rl2 o5 tl2 = some (.lst (ts2.map fun t=>V.int (t:Nat))):=by rw [upd_ne (Ne.symm h2.rt)]; exact t4
    refine ⟨_,rfl,b,a.a_Book,dx2,_,_,rfl,b5,T.c_Book,T.na_Book_tables,rfl,.inl ⟨rfl,_,SqL.of t5⟩,_,rfl,tl2,_,_,rfl,rfl,t5,by rw [List.length_map,h2.tabs.len]; exact s2,?_⟩
    generalize hO6:HO.lst (ts2.map (fun t=>V.int (t:Nat)) ++ [V.int (t:Nat)]) = o6
    have b6:upd (upd H4 rl2 o5) tl2 o6 b = some (.ins a.a_Book dx2 (bookFs ml2 rl2 tl2 nd2)):=by rw [upd_ne bt]; exact b5
    have n6:upd (upd H4 rl2 o5) tl2 o6 nd2 = some (.dK (putK kvs2 (Sum.inl (t:Int)) (V.int (rs2.length:Nat)))):=by rw [upd_ne nt,upd_ne nr,n4,hO3]
    have z:=DGet.k (k:=.inl (t:Int)) n6
    rw [valV_put,if_pos rfl] at z
    refine ⟨_,rfl,b,a.a_Book,dx2,_,_,rfl,b6,T.c_Book,T.na_Book_numbers,rfl,_,rfl,nd2,_,rfl,z,?_⟩
    have tu6:Tups H4 (upd (upd H4 rl2 o5) tl2 o6):=fun x xs e=>by
      rw [upd_ne (ne_of e t4 (by intro z; cases z)),upd_ne (ne_of e r4 (by intro z; cases z))]; exact e
    have parts:=h2.more (H':=upd (upd H4 rl2 o5) tl2 o6) (i:=p) (lo:=k0) (hi:=k1) (t:=t) (q:=q4) (fun x xs e=>tu6 _ _ (tu4 _ _ e)) (b6.trans h2.hb.symm)
      (by rw [upd_ne h2.mt,upd_ne h2.mr,m4,h2.hm]) (by rw [upd_ne h2.rt,upd_same,hO5]) (by rw [upd_same,hO6]) n6
      (by rw [upd_ne qt,upd_ne qr,q4',hO4]) B' hn2 (tab_congr tb fun c hc=>by rw [yn,Bdd.bits_rowN hc])
    refine q rs2.length _ _ (fun x o e nf=>?_) (fun x xs e=>tu6 _ _ (tu4 _ _ (tu2 _ _ (tu1 _ _ e)))) ⟨_,_,_,_,_,_,_,_,parts⟩ (g02.trans (Bdd.Grown.snoc _ _)) (by simp) yn (by rw [List.length_append,List.length_singleton]; omega) fun j a1 a2=>?_
    · have e2:=aw2 x o (aw1 x o e nf) nf
      rw [upd_ne (fun z=>nf ((h2.ft x).mpr (.inr (.inr (.inr (.inl z)))))),upd_ne (fun z=>nf ((h2.ft x).mpr (.inr (.inr (.inl z)))))]
      exact aw4 x o e2 nf
    · rw [List.length_append,List.length_singleton] at a2
      by_cases hj:j < rs2.length
      · rw [Bdd.lev_snoc hj]
        have:=lvs j a1 hj
        omega
      · have:j = rs2.length:=by omega
        subst this
        rw [Bdd.lev_of B' (i:=p) (lo:=k0) (hi:=k1) (by simp)]
        exact hup
theorem ok_Book_room_with (T:Txt P w K mg a) (G_first_place:FnOk P w K mg base CX0 k a.a_first_place a.d_first_place p_first_place spFirst) (G_held_at:FnOk P w K mg base CX0 k a.a_held_at a.d_held_at p_held_at spHeldAt) :
    ∀ d:Nat,FnOk P w K mg base CX0 (k + d) a.a_Book_room_with a.d_Book_room_with p_Book_room_with (spRoomWith a.a_Book d)
  | 0=>by
    refine ⟨fun vs H Q E h=>?_,fun A outer s H args us vs Q E _ _ _ _ h=>?_⟩
    · obtain ⟨b,os,rs,F,t,u,f,rfl,_⟩:=h
      rfl
    · obtain ⟨b,os,rs,F,t,u,f,_,_,_,hu,hd,_⟩:=h
      omega
  | d + 1=>ok_Book_room_step T (G_first_place.mono (Nat.le_add_right _ _)) (G_held_at.mono (Nat.le_add_right _ _)) (ok_Book_room_with T G_first_place G_held_at d)
theorem ok_Book_enter (T:Txt P w K mg a) (G_must_be_sentence:FnOk P w K mg base CX0 k a.a_must_be_sentence a.d_must_be_sentence p_must_be_sentence spMustSen) (G_must_have_marks:FnOk P w K mg base CX0 k a.a_must_have_marks a.d_must_have_marks p_must_have_marks (spMustMarks K))
    (G_table_of:FnOk P w K mg base CX0 k a.a_table_of a.d_table_of p_table_of (spTable K 24)) (G_Book_room_with:FnOk P w K mg base CX0 k a.a_Book_room_with a.d_Book_room_with p_Book_room_with (spRoomWith a.a_Book 9)) :
    FnOk P w K mg base CX0 (k + 1) a.a_Book_enter a.d_Book_enter p_Book_enter (spBookEnter (BookAt a.a_Book)):=by
  refine T.f_Book_enter.F.ok sc_Book_enter (fun vs H Q E h=>?_) (fun cdv A outer s H vs Q E hr h=>?_)
  · obtain ⟨b,p,os,rs,F,sn,rfl,_⟩:=h
    rfl
  obtain ⟨b,p,os,rs,F,sn,rfl,hB,hlen,isp,hin,hc,hd,q⟩:=h
  refine ⟨_,(pss_cons (ps_expr (pe_callD G_must_be_sentence hr T.f_must_be_sentence (pa_cons (pv 1) pa_nil)))
      (pss_cons (ps_expr (pe_callD G_must_have_marks hr T.f_must_have_marks (pa_cons (pe_fld (pv 0) rfl) (pa_cons (pv 1) pa_nil))))
      (pss_one (ps_ret (pe_methD (pv 0) T.c_Book T.f_Book_room_with G_Book_room_with hr (pa_cons (pe_callD G_table_of hr T.f_table_of (pa_cons (pv 1) (pa_cons (pe_fld (pv 0) rfl) pa_nil))) pa_nil)))))),?_⟩
  have L:=bookLike a.a_Book
  have ho:=L.ord hB
  have hlt:sn.inO letts:=(Sn.inO_iff sn).mpr fun x hx=>ho.mem x ((Sn.inO_iff sn).mp hin x hx)
  refine ⟨_,rfl,p,sn,rfl,isp,hlt,hc,hd,fun H1 g1=>?_⟩
  have hB1:=L.same hB g1
  obtain ⟨dx,ml,rl,tl,nd,rv,ts,kvs,h1⟩:=hB1
  refine ⟨_,rfl,b,a.a_Book,dx,_,_,rfl,h1.hb,T.c_Book,T.na_Book_marks,rfl,_,rfl,ml,p,os,sn,rfl,SqL.of h1.hm,isp.mono (Tups.of g1),by omega,hin,fun H2 g2=>?_⟩
  have g12:=g1.trans g2
  have h2:=h1.frame (fun x o e _=>g2 x o e) (Tups.of g2)
  refine ⟨_,rfl,b,dx,_,rfl,h2.hb,rfl,_,rfl,_,rfl,b,a.a_Book,dx,_,_,rfl,h2.hb,T.c_Book,T.na_Book_marks,rfl,p,ml,sn,os,rfl,isp.mono (Tups.of g12),SqL.of h2.hm,hin,ho.le,hd,fun N H3 g3 hN=>?_⟩
  have g13:=g12.trans g3
  have hB3:=L.same hB g13
  refine ⟨b,os,rs,F,N,0,_,rfl,hB3,by show rs.length + 512≤9000000; omega,Nat.zero_le _,by have:=ho.le; omega,hN,fun i hi=>absurd hi (Nat.not_lt_zero _),fun j rs' H' aw tu hB' gr lt y ln _=>?_⟩
  refine q j rs' F H' (fun x o e nf=>aw x o (g13 _ _ e) nf) (fun x xs e=>tu _ _ (g13 _ _ e)) hB' (fun x hx=>.inl hx) gr lt (fun r=>?_) (by have:rs'.length + 1≤rs.length + 512:=ln; omega)
  rw [y]
  refine Sn.val_congr sn hin fun x hx=>?_
  show (Bdd.bits r os.length).testBit (ix os x) = r (ix os x)
  exact Bdd.bits_bit r (ix_spec hx).2.1
theorem ok_Book_init (T:Txt P w K mg a) (G_must_be_order:FnOk P w K mg base CX0 k a.a_must_be_order a.d_must_be_order p_must_be_order (spMustOrder K)) (G_all_rows:FnOk P w K mg base CX0 k a.a_all_rows a.d_all_rows p_all_rows spAllRows) :
    FnOk P w K mg base CX0 (k + 1) a.a_Book_init a.d_Book_init p_Book_init (spBookInit (BookAt a.a_Book) K a.a_Book):=by
  refine T.f_Book_init.F.ok sc_Book_init (fun vs H Q E h=>?_) (fun cdv A outer s H vs Q E hr h=>?_)
  · obtain ⟨b,dx,l,os,rfl,_⟩:=h
    rfl
  obtain ⟨b,dx,l,os,rfl,hb,bd,hl,ho,q⟩:=h
  refine ⟨_,(pss_cons (ps_expr (pe_callD G_must_be_order hr T.f_must_be_order (pa_cons (pv 1) pa_nil)))
      (pss_cons (ps_setA 2 sc_Book_init.nd (pe_callB call_len_seq rfl T.n_len bt_len (pa_cons (pv 1) pa_nil)))
      (pss_cons (ps_fld (pv 0) (pe_callTy call_list_of rfl T.n_list bt_list (pa_cons (pv 1) pa_nil)) rfl)
      (pss_cons (ps_fld (pv 0) (pe_lst (pa_cons (pe_tup (pa_cons (pv 2) (pa_cons pe_int (pa_cons pe_int pa_nil)))) (pa_cons (pe_tup (pa_cons (pv 2) (pa_cons pe_int (pa_cons pe_int pa_nil)))) pa_nil))) rfl)
      (pss_cons (ps_fld (pv 0) (pe_lst (pa_cons pe_int (pa_cons (pe_callD G_all_rows hr T.f_all_rows (pa_cons (pv 2) pa_nil)) pa_nil))) rfl)
      (pss_one (ps_fld (pv 0) (pe_disp (pps_cons pe_int pe_int (pps_cons (pe_callD G_all_rows hr T.f_all_rows (pa_cons (pv 2) pa_nil)) pe_int pps_nil)) rfl rfl (List.cons_ne_nil _ _) (Nat.le_of_ble_eq_true rfl)) rfl))))))),?_⟩
  have n8:=ho.le
  have hml:(os.map V.str).length = os.length:=List.length_map _
  refine ⟨_,rfl,l,os,rfl,hl,ho,fun H1 g1=>?_⟩
  have hl1:=g1.seq hl
  refine ⟨_,rfl,l,_,rfl,.inl hl1,?_⟩
  rw [hml]
  have b1:=g1 _ _ hb
  refine ⟨_,rfl,l,_,rfl,.inl hl1,fun ml hm1=>?_⟩
  have bm:b≠ml:=ne_of_none b1 hm1
  have b2:upd H1 ml (.lst (os.map V.str)) b = some (.ins a.a_Book dx []):=by rw [upd_ne bm]; exact b1
  refine ⟨_,rfl,b,a.a_Book,dx,_,rfl,b2,T.c_Book,T.na_Book_marks,by decide,?_⟩
  have s2:∀ x o,H x = some o→x≠b→upd (upd H1 ml (.lst (os.map V.str))) b (.ins a.a_Book dx (putF "marks" (.ref ml) [])) x = some o:=fun x o e nb=>by
    rw [upd_ne nb,upd_ne (ne_of_none (g1 _ _ e) hm1)]; exact g1 _ _ e
  have hm2:upd (upd H1 ml (.lst (os.map V.str))) b (.ins a.a_Book dx (putF "marks" (.ref ml) [])) ml = some (.lst (os.map V.str)):=by rw [upd_ne (Ne.symm bm)]; exact upd_same
  have f2:∀ x,upd (upd H1 ml (.lst (os.map V.str))) b (.ins a.a_Book dx (putF "marks" (.ref ml) [])) x = none→H x = none:=fun x e=>by
    have nb:x≠b:=fun z=>by rw [z,upd_same] at e; cases e
    cases hx:H x with
    | none=>rfl
    | some o=>rw [s2 x o hx nb] at e; cases e
  have fm:H ml = none:=g1.free hm1
  have b2':upd (upd H1 ml (.lst (os.map V.str))) b (.ins a.a_Book dx (putF "marks" (.ref ml) [])) b = some (.ins a.a_Book dx (putF "marks" (.ref ml) [])):=upd_same
  generalize upd (upd H1 ml (.lst (os.map V.str))) b (.ins a.a_Book dx (putF "marks" (.ref ml) [])) = H2 at s2 hm2 f2 b2'
  refine ⟨_,rfl,by show 3≤sizeLine; decide,fun p0 hp0=>?_⟩
  refine ⟨_,rfl,by show 3≤sizeLine; decide,fun p1 hp1=>?_⟩
  refine ⟨by show 2≤sizeLine; decide,fun rl hrl=>?_⟩
  have g2:=((Same.new hp0 (.tup [.int (os.length:Nat),.int 0,.int 0])).trans (Same.new hp1 (.tup [.int (os.length:Nat),.int 1,.int 1]))).trans (Same.new hrl (.lst [.ref p0,.ref p1]))
  have hp0':=((Same.new hp1 (.tup [.int (os.length:Nat),.int 1,.int 1])).trans (Same.new hrl (.lst [.ref p0,.ref p1]))) p0 (.tup [.int (os.length:Nat),.int 0,.int 0]) upd_same
  have hp1':=(Same.new hrl (.lst [.ref p0,.ref p1])) p1 (.tup [.int (os.length:Nat),.int 1,.int 1]) upd_same
  have hr3:upd (upd (upd H2 p0 (.tup [.int (os.length:Nat),.int 0,.int 0])) p1 (.tup [.int (os.length:Nat),.int 1,.int 1])) rl (.lst [.ref p0,.ref p1]) rl = some (.lst [.ref p0,.ref p1]):=upd_same
  have frl:H2 rl = none:=((Same.new hp0 _).trans (Same.new hp1 _)).free hrl
  have brl:b≠rl:=ne_of_none b2' frl
  have mr:ml≠rl:=ne_of_none hm2 frl
  have b0:b≠p0:=ne_of_none b2' hp0
  have b1':b≠p1:=ne_of_none b2' ((Same.new hp0 _).free hp1)
  generalize upd (upd (upd H2 p0 (.tup [.int (os.length:Nat),.int 0,.int 0])) p1 (.tup [.int (os.length:Nat),.int 1,.int 1])) rl (.lst [.ref p0,.ref p1]) = H3 at g2 hp0' hp1' hr3
  refine ⟨_,rfl,b,a.a_Book,dx,_,rfl,g2 _ _ b2',T.c_Book,T.na_Book_rooms,by show 1 < 1000; decide,?_⟩
  generalize hfs:putF "rooms" (V.ref rl) (putF "marks" (V.ref ml) []) = fs3
  have u3:∀ x,x≠b→upd H3 b (.ins a.a_Book dx fs3) x = H3 x:=fun x nb=>upd_ne nb
  have b3:upd H3 b (.ins a.a_Book dx fs3) b = some (.ins a.a_Book dx fs3):=upd_same
  generalize upd H3 b (.ins a.a_Book dx fs3) = H4 at u3 b3
  refine ⟨_,rfl,os.length,rfl,n8,by show 2≤sizeLine; decide,fun tl htl=>?_⟩
  have btl:b≠tl:=ne_of_none b3 htl
  have g4:=Same.new htl (.lst [.int 0,.int ((2 ^ 2 ^ os.length - 1:Nat):Int)])
  have ht5:upd H4 tl (.lst [.int 0,.int ((2 ^ 2 ^ os.length - 1:Nat):Int)]) tl = some (.lst [.int 0,.int ((2 ^ 2 ^ os.length - 1:Nat):Int)]):=upd_same
  generalize upd H4 tl (.lst [.int 0,.int ((2 ^ 2 ^ os.length - 1:Nat):Int)]) = H5 at g4 ht5
  refine ⟨_,rfl,b,a.a_Book,dx,_,rfl,g4 _ _ b3,T.c_Book,T.na_Book_tables,by rw [← hfs]; show 2 < 1000; decide,?_⟩
  generalize hfs4:putF "tables" (V.ref tl) fs3 = fs4
  have u5:∀ x,x≠b→upd H5 b (.ins a.a_Book dx fs4) x = H5 x:=fun x nb=>upd_ne nb
  have b5:upd H5 b (.ins a.a_Book dx fs4) b = some (.ins a.a_Book dx fs4):=upd_same
  generalize upd H5 b (.ins a.a_Book dx fs4) = H6 at u5 b5
  refine fun nd hnd=>?_
  have bnd:b≠nd:=ne_of_none b5 hnd
  have g6:=Same.new hnd (.dK [])
  refine ⟨_,rfl,os.length,rfl,n8,upd_same,[(Sum.inl 0,.int 0),(Sum.inl ((2 ^ 2 ^ os.length - 1:Nat):Int),.int 1)],rfl,(by show 2≤15; decide),?_⟩
  rw [upd_upd]
  have g7:=Same.new hnd (.dK (mergeK [] [(Sum.inl 0,.int 0),(Sum.inl ((2 ^ 2 ^ os.length - 1:Nat):Int),.int 1)]))
  have hn7:upd H6 nd (.dK (mergeK [] [(Sum.inl 0,.int 0),(Sum.inl ((2 ^ 2 ^ os.length - 1:Nat):Int),.int 1)])) nd = some (.dK (mergeK [] [(Sum.inl 0,.int 0),(Sum.inl ((2 ^ 2 ^ os.length - 1:Nat):Int),.int 1)])):=upd_same
  generalize upd H6 nd (.dK (mergeK [] [(Sum.inl 0,.int 0),(Sum.inl ((2 ^ 2 ^ os.length - 1:Nat):Int),.int 1)])) = H7 at g7 hn7
  refine ⟨_,rfl,b,a.a_Book,dx,_,rfl,g7 _ _ b5,T.c_Book,T.na_Book_numbers,by rw [← hfs4,← hfs]; show 3 < 1000; decide,?_⟩
  have big:2 ^ 2 ^ os.length - 1≠0:=by
    have:2 ^ 1≤2 ^ 2 ^ os.length:=Nat.pow_le_pow_right (by decide) Nat.one_le_two_pow
    omega
  have to7:∀ x o,H3 x = some o→x≠b→upd H7 b (.ins a.a_Book dx (putF "numbers" (.ref nd) fs4)) x = some o:=fun x o e nb=>by
    rw [upd_ne nb]
    refine g7 _ _ ?_
    rw [u5 x nb]
    refine g4 _ _ ?_
    rw [u3 x nb]
    exact e
  have tl6:H6 tl = some (.lst [.int 0,.int ((2 ^ 2 ^ os.length - 1:Nat):Int)]):=by rw [u5 tl (Ne.symm btl)]; exact ht5
  have efs:putF "numbers" (.ref nd) fs4 = bookFs ml rl tl nd:=by rw [← hfs4,← hfs]; rfl
  have up:∀ x o,H3 x = some o→x≠b→H4 x = some o:=fun x o e nb=>by rw [u3 x nb]; exact e
  have mt:ml≠tl:=ne_of_none (up _ _ (g2 _ _ hm2) (Ne.symm bm)) htl
  have rt:rl≠tl:=ne_of_none (up _ _ hr3 (Ne.symm brl)) htl
  have fr4:∀ x,H4 x = none→H x = none:=fun x e=>f2 x (by
    cases hx:H2 x with
    | none=>rfl
    | some o =>
      by_cases nb:x = b
      · rw [nb,b3] at e; cases e
      · rw [up x o (g2 _ _ hx) nb] at e; cases e)
  have fr6:∀ x,H6 x = none→H x = none:=fun x e=>by
    have nb:x≠b:=fun z=>by rw [z,b5] at e; cases e
    rw [u5 x nb] at e
    exact fr4 x (g4.free e)
  have two:∀ {j:Nat},j < 2→j = 0∨j = 1:=fun h=>by omega
  have bk0:Bdd.Bk os.length [none,none]:=⟨rfl,rfl,fun k h1 h2=>by simp at h2; omega,fun i j x e _=>by
    have:=(List.getElem?_eq_some_iff.mp e).1
    rcases two (by simpa using this) with z | z <;> subst z <;> cases e⟩
  refine q _ (fun x=>x = b∨x = ml∨x = rl∨x = tl∨x = nd) (fun x o e nb=>to7 x o (g2 _ _ (s2 x o e nb)) nb) ⟨dx,ml,rl,tl,nd,[.ref p0,.ref p1],[0,2 ^ 2 ^ os.length - 1],mergeK [] [(Sum.inl 0,.int 0),(Sum.inl ((2 ^ 2 ^ os.length - 1:Nat):Int),.int 1)],?_⟩ (fun x hx=>?_)
  · refine { hb:=by rw [upd_same,efs],hm:=to7 _ _ (g2 _ _ hm2) (Ne.symm bm),hr:=to7 _ _ hr3 (Ne.symm brl),ht:=by rw [upd_ne (Ne.symm btl)]; exact g7 _ _ tl6,hd:=by rw [upd_ne (Ne.symm bnd)]; exact hn7,mr:=mr,mt:=mt,rt:=rt,ord:=ho,bk:=bk0,len:=rfl,rm:=?_,tabs:=?_,nums:=?_,ft:=fun x=>Iff.rfl }
    · intro j x e
      have:=(List.getElem?_eq_some_iff.mp e).1
      rcases two (by simpa using this) with z | z <;> subst z <;> cases e
      · exact ⟨p0,rfl,to7 _ _ hp0' (Ne.symm b0)⟩
      · exact ⟨p1,rfl,to7 _ _ hp1' (Ne.symm b1')⟩
    · refine ⟨rfl,fun j t e=>?_⟩
      have:=(List.getElem?_eq_some_iff.mp e).1
      rcases two (by simpa using this) with z | z <;> subst z <;> cases e
      · exact tab_congr (tab_zero _) fun b _=>rfl
      · exact tab_congr (tab_all _) fun b _=>(Bdd.yes_yes bk0 _).symm
    · have z0:Nums [] []:=⟨fun j t e=>by simp at e,fun t _=>rfl,Nat.le_refl _⟩
      have z1:=z0.snoc (t:=0) (by simp)
      exact z1.snoc (t:=2 ^ 2 ^ os.length - 1) (fun hm=>by simp at hm; omega)
  · rcases hx with z | z | z | z | z <;> subst z
    · exact .inl rfl
    · exact .inr (.inr fm)
    · exact .inr (.inr (f2 _ frl))
    · exact .inr (.inr (fr4 _ htl))
    · exact .inr (.inr (fr6 _ hnd))
end
end K05
namespace K05
open PySem L2 Sen
section
variable {P:Program} {w:World} {K:PySem.W.Frag} {mg:Str→Option Value} {base:Heap} {a:Ad} {k:Nat}
theorem ok_law_order_by (T:Txt P w K mg a):FnOk P w K mg base CX0 (k + 1) a.a_x_law_order_by a.d_x_law_order_by p_x_law_order_by spOrderBy:=by
  refine T.f_x_law_order_by.F.ok sc_x_law_order_by (fun vs H Q E h=>?_) (fun cdv A outer s H vs Q E hr h=>?_)
  · obtain ⟨c,rfl,_⟩:=h
    rfl
  obtain ⟨c,rfl,q⟩:=h
  refine ⟨_,(pss_cons (ps_if (pt_cmpR op_eq (pe_op op_mod (pv 0) pe_int) pe_int (nomark _)) (@pss_one _ _ _ (@ps_ret _ _ _ _ (@pe_ix _ _ _ _ _ _ _ ix_list (@pe_lit0 _ _ (ordsD badO) 9 (by rfl)) (pe_op op_mod (pe_op op_fdiv (pv 0) pe_int) pe_int) (fun _ _=>rfl)))) pss_nil)
      (@pss_one _ _ _ (@ps_ret _ _ _ _ (@pe_ix _ _ _ _ _ _ _ ix_list (@pe_lit0 _ _ (ordsD goodO) 9 (by rfl)) (pe_op op_mod (pe_op op_fdiv (pv 0) pe_int) pe_int) (fun _ _=>rfl))))),?_⟩
  have fin:∀ (os:List (List Str)) (v:V) (H':Hp) (i:Int),Same H H'→IsW H' (ordsD os) v→0≤i→i < (os.length:Nat)→(∀ o∈os,o∈(if c % 3 = 1 then badO else goodO))→∃ p xs i' z,v = .ref p∧V.int i = .int i'∧SqL K H' p xs∧atI xs i' = some z∧Q z H':=fun os v H' i g hv h0 h1 hm=>by
    obtain ⟨p,vs,rfl,h2,h3⟩:=IsW.lsq hv
    obtain ⟨z,o,j,h4,h5,h6,h7⟩:=pick (pd_mapW h3) h0 h1
    obtain ⟨l,xs,rfl,h8,h9⟩:=IsW.lsq h7
    rw [pd_strs h9] at h8
    exact ⟨p,vs,i,_,rfl,rfl,SqL.of h2,h4,q l H' o g h8 (hm o h6)⟩
  refine ⟨_,rfl,_,_,rfl,rfl,(by decide:(0:Int) < 3),rfl,_,rfl,ite2 (fun e=>?_) (fun e=>?_)⟩
  · refine ⟨hol0,fun v H' g hv=>?_⟩
    refine ⟨_,rfl,_,_,rfl,rfl,⟨by decide,by decide⟩,_,_,rfl,rfl,(by decide:(0:Int) < 7),?_⟩
    have e:=V.int.inj (of_decide_eq_true e)
    exact fin badO v H' _ g hv (mod_in _ (by decide)).1 (mod_in _ (by decide)).2 (fun o h=>by rw [if_pos e]; exact h)
  · refine ⟨hol0,fun v H' g hv=>?_⟩
    refine ⟨_,rfl,_,_,rfl,rfl,⟨by decide,by decide⟩,_,_,rfl,rfl,(by decide:(0:Int) < 2),?_⟩
    have e:¬ c % 3 = 1:=fun z=>e (decide_eq_true (congrArg V.int z))
    exact fin goodO v H' _ g hv (mod_in _ (by decide)).1 (mod_in _ (by decide)).2 (fun o h=>by rw [if_neg e]; exact h)
end
end K05
namespace K05
open PySem L2 Sen
section
variable {P:Program} {w:World} {K:PySem.W.Frag} {mg:Str→Option Value} {base:Heap} {a:Ad} {k:Nat}
theorem ok_law_sentence_by (T:Txt P w K mg a):FnOk P w K mg base CX0 (k + 1) a.a_x_law_sentence_by a.d_x_law_sentence_by p_x_law_sentence_by spSenBy:=by
  refine T.f_x_law_sentence_by.F.ok sc_x_law_sentence_by (fun vs H Q E h=>?_) (fun cdv A outer s H vs Q E hr h=>?_)
  · obtain ⟨c,rfl,_⟩:=h
    rfl
  obtain ⟨c,rfl,q⟩:=h
  refine ⟨_,(@pss_cons _ _ _ _ _ (@ps_setA _ _ 1 _ _ _ _ (by exact sc_x_law_sentence_by.nd) (@pe_lit0 _ _ (gdD) 9 (by rfl)) (by rfl) (by first | exact Or.inl rfl | exact Or.inr rfl) (by rfl) (by first | exact .inl rfl | exact .inr rfl))
      (by exact (@pss_cons _ _ _ _ _ (@ps_setA _ _ 2 _ _ _ _ (by exact sc_x_law_sentence_by.nd) (@pe_lit1 _ _ (lsq odd1) (gdD) 9 1 "good" (by rfl) (by rfl) (by first | exact Or.inl rfl | exact Or.inr (Or.inl rfl) | exact Or.inr (Or.inr rfl)) (by decide) (by decide)) (by rfl) (by first | exact Or.inl rfl | exact Or.inr rfl) (by rfl) (by first | exact .inl rfl | exact .inr rfl))
      (by exact (@pss_cons _ _ _ _ _ (@ps_setA _ _ 2 _ _ _ _ (by exact sc_x_law_sentence_by.nd) (@pe_op _ _ _ _ _ _ _ _ op_addL (pv 2) (@pe_lit1 _ _ (lsq odd2) (gdD) 9 1 "good" (by rfl) (by rfl) (by first | exact Or.inl rfl | exact Or.inr (Or.inl rfl) | exact Or.inr (Or.inr rfl)) (by decide) (by decide))) (by rfl) (by first | exact Or.inl rfl | exact Or.inr rfl) (by rfl) (by first | exact .inl rfl | exact .inr rfl))
      (by exact (@pss_cons _ _ _ _ _ (@ps_setA _ _ 3 _ _ _ _ (by exact sc_x_law_sentence_by.nd) (@pe_lit1 _ _ (lsq forD) (gdD) 9 1 "good" (by rfl) (by rfl) (by first | exact Or.inl rfl | exact Or.inr (Or.inl rfl) | exact Or.inr (Or.inr rfl)) (by decide) (by decide)) (by rfl) (by first | exact Or.inl rfl | exact Or.inr rfl) (by rfl) (by first | exact .inl rfl | exact .inr rfl))
      (by exact (pss_cons (ps_if (pt_cmpR op_eq (pe_op op_mod (pv 0) pe_int) pe_int (nomark _)) (pss_one (ps_ret (pe_ix ix_list (pv 2) (pe_op op_mod (pe_op op_fdiv (pv 0) pe_int) pe_int) (fun _ _=>rfl)))) pss_nil)
      (pss_cons (ps_if (pt_cmpR op_eq (pe_op op_mod (pv 0) pe_int) pe_int (nomark _)) (pss_one (ps_ret (pe_ix ix_list (pv 3) (pe_op op_mod (pe_op op_fdiv (pv 0) pe_int) pe_int) (fun _ _=>rfl)))) pss_nil)
      (pss_cons (ps_if (PW.pt (pw_and (pt_cmpR op_eq (pe_op op_mod (pv 0) pe_int) pe_int (nomark _)) (pw_and1 (pt_cmpR op_eq (pe_op op_mod (pe_op op_fdiv (pv 0) pe_int) pe_int) pe_int (nomark _))))) (pss_cons (ps_setA 4 sc_x_law_sentence_by.nd (pe_tup (pa_cons pe_str (pa_cons pe_str pa_nil))))
      (pss_cons (ps_for PassesOwn.never rfl (pi_range1 rfl T.n_range (pa_cons pe_int pa_nil)) (pg_name (i:=5) sc_x_law_sentence_by.nd rfl (Or.inl rfl)) (pss_one (ps_setA 4 sc_x_law_sentence_by.nd (pe_tup (pa_cons pe_str (pa_cons (pv 4) pa_nil))))))
      (pss_one (ps_ret (pv 4))))) pss_nil)
      (pss_one (ps_ret (pv 1)))))))))))))),?_⟩
  refine ⟨hol0,fun v H1 g1 hv=>⟨hol1 rfl hv,fun v2 H2 g2 hv2=>?_⟩⟩
  obtain ⟨p2,xs2,rfl,h2,d2⟩:=IsW.lsq hv2
  refine ⟨_,rfl,hol1 rfl (IsW.mono hv g2),fun v3 H3 g3 hv3=>?_⟩
  obtain ⟨p3,xs3,rfl,h3,d3⟩:=IsW.lsq hv3
  have l2:xs2.length = 8:=(Paired.length d2).symm
  have l3:xs3.length = 5:=(Paired.length d3).symm
  refine ⟨p2,p3,xs2,xs3,rfl,rfl,SqL.of (g3 _ _ h2),SqL.of h3,by rw [l2,l3]; decide,fun r hr=>?_⟩
  have g4:=Same.new hr (.lst (xs2 ++ xs3))
  have e4:upd H3 r (.lst (xs2 ++ xs3)) r = some _:=upd_same
  generalize upd H3 r _ = H4 at g4 e4 ⊢
  refine ⟨hol1 rfl (IsW.mono (IsW.mono (IsW.mono hv g2) g3) g4),fun v5 H5 g5 hv5=>?_⟩
  obtain ⟨p5,xs5,rfl,h5,d5⟩:=IsW.lsq hv5
  have g45:=g4.trans g5
  have g35:=g3.trans g45
  have g25:=g2.trans g35
  have g05:=g1.trans g25
  have dd:=pd_app (pdW_mono g35 d2) (pdW_mono g45 d3)
  have e5:=g5 _ _ e4
  have hv:=IsW.mono hv g25
  refine ⟨_,rfl,_,_,rfl,rfl,(by decide:(0:Int) < 4),rfl,_,rfl,ite2 (fun e=>?_) (fun n1=>?_)⟩
  · have e:=V.int.inj (of_decide_eq_true e)
    refine ⟨_,rfl,_,rfl,_,_,rfl,rfl,⟨by decide,by decide⟩,_,_,rfl,rfl,(by decide:(0:Int) < 13),?_⟩
    obtain ⟨z,d,j,h6,h7,h8,h9⟩:=pick dd (mod_in (c / 4) (m:=13) (by decide)).1 (mod_in (c / 4) (m:=13) (by decide)).2
    obtain ⟨p,rfl,hp⟩:=odd_ref h8 h9
    exact ⟨r,_,_,_,rfl,rfl,SqL.of e5,h6,q p H5 g05 (by unfold kindS; rw [if_pos e]; exact hp)⟩
  have n1:¬ c % 4 = 1:=fun z=>n1 (decide_eq_true (congrArg V.int z))
  refine ⟨_,rfl,_,_,rfl,rfl,(by decide:(0:Int) < 4),rfl,_,rfl,ite2 (fun e=>?_) (fun n2=>?_)⟩
  · have e:=V.int.inj (of_decide_eq_true e)
    refine ⟨_,rfl,_,rfl,_,_,rfl,rfl,⟨by decide,by decide⟩,_,_,rfl,rfl,(by decide:(0:Int) < 4),?_⟩
    obtain ⟨z,d,j,h6,h7,h8,h9⟩:=pick d5 (mod_in (c / 4) (m:=4) (by decide)).1 (mod_in (c / 4) (m:=4) (by decide)).2
    obtain ⟨p,rfl,hp⟩:=for_ref h7 h9
    exact ⟨p5,_,_,_,rfl,rfl,SqL.of h5,h6,q p H5 g05 (by unfold kindS; rw [if_neg n1,if_pos e]; exact hp)⟩
  have n2:¬ c % 4 = 2:=fun z=>n2 (decide_eq_true (congrArg V.int z))
  have last:¬ (c % 4 = 3∧c / 4 % 4 = 1)→Q v H5:=fun n3=>by
    obtain ⟨p,rfl,hp⟩:=gd_ref hv
    exact q p H5 g05 (by unfold kindS; rw [if_neg n1,if_neg n2,if_neg n3]; exact hp)
  refine ⟨_,rfl,_,_,rfl,rfl,(by decide:(0:Int) < 4),rfl,_,rfl,ite2 (fun e3=>?_) (fun n3=>?_)⟩
  · refine ⟨_,rfl,_,_,rfl,rfl,⟨by decide,by decide⟩,_,_,rfl,rfl,(by decide:(0:Int) < 4),rfl,_,rfl,ite2 (fun e4=>?_) (fun n4=>?_)⟩
    · have e3:=V.int.inj (of_decide_eq_true e3)
      have e4:=V.int.inj (of_decide_eq_true e4)
      refine ⟨by show 2≤sizeLine; decide,fun t ht=>?_⟩
      have g6:=Same.new ht (.tup [.str "mark", .str "a"])
      have e6:upd H5 t (.tup [.str "mark", .str "a"]) t = some _:=upd_same
      generalize upd H5 t _ = H6 at g6 e6 ⊢
      refine ⟨24,rfl,by decide,by decide,?_⟩
      refine for_range (fun i σ H'=>∃ (u:Addr) (f1:Option V),Same H H'∧IsT H' (ntT i) (.ref u)∧σ = [some (.int c),some v,some (.ref r),some (.ref p5),some (.ref u),f1]) ⟨t,_,g05.trans g6,⟨t,_,rfl,e6,_,_,rfl,rfl,_,_,rfl,rfl,rfl⟩,rfl⟩ ?_ ?_
      · rintro i σ H' hi ⟨u,f1,g,hu,rfl⟩
        refine ⟨_,rfl,by show 2≤sizeLine; decide,fun t' ht'=>?_⟩
        have g7:=Same.new ht' (.tup [.str "not", .ref u])
        exact ⟨t',_,g.trans g7,⟨t',_,rfl,upd_same,_,_,rfl,rfl,_,_,rfl,hu.mono (Tups.of g7),rfl⟩,rfl⟩
      · rintro σ H' ⟨u,f1,g,hu,rfl⟩
        exact ⟨_,rfl,q u H' g (by unfold kindS; rw [if_neg n1,if_neg n2,if_pos ⟨e3,e4⟩]; exact .inr (.inl ⟨rfl,_,hu,nt_deep⟩))⟩
    · exact ⟨_,rfl,last fun z=>n4 (decide_eq_true (congrArg V.int z.2))⟩
  · exact ⟨_,rfl,last fun z=>n3 (decide_eq_true (congrArg V.int z.1))⟩
end
end K05
namespace K05
open PySem L2 Sen
section
variable {P:Program} {w:World} {K:PySem.W.Frag} {mg:Str→Option Value} {base:Heap} {a:Ad} {k:Nat}
theorem ok_law_row_by (T:Txt P w K mg a):FnOk P w K mg base CX0 (k + 1) a.a_x_law_row_by a.d_x_law_row_by p_x_law_row_by spRowBy:=by
  refine T.f_x_law_row_by.F.ok sc_x_law_row_by (fun vs H Q E h=>?_) (fun cdv A outer s H vs Q E hr h=>?_)
  · obtain ⟨c,far,rfl,_⟩:=h
    rfl
  obtain ⟨c,far,rfl,h0,q⟩:=h
  refine ⟨_,(pss_cons (ps_if (pt_cmpR op_eq (pe_op op_mod (pv 0) pe_int) pe_int (nomark _)) (@pss_one _ _ _ (@ps_ret _ _ _ _ (@pe_ix _ _ _ _ _ _ _ ix_list (@pe_lit1 _ _ (rowsD far) (.n far) 9 1 "far" (by rfl) (by rfl) (by first | exact Or.inl rfl | exact Or.inr (Or.inl rfl) | exact Or.inr (Or.inr rfl)) (by decide) (by decide)) (pe_op op_mod (pe_op op_fdiv (pv 0) pe_int) pe_int) (fun _ _=>rfl)))) pss_nil)
      (pss_one (ps_ret (pe_lst (pa_cons (pe_op op_mod (pe_op op_fdiv (pv 0) pe_int) pe_int) (pa_cons (pe_op op_mod (pe_op op_fdiv (pv 0) pe_int) pe_int) (pa_cons (pe_op op_mod (pe_op op_fdiv (pv 0) pe_int) pe_int) pa_nil))))))),?_⟩
  refine ⟨_,rfl,_,_,rfl,rfl,(by decide:(0:Int) < 3),rfl,_,rfl,ite2 (fun e=>?_) (fun e=>?_)⟩
  · refine ⟨hol1 rfl rfl,fun v H' g hv=>?_⟩
    refine ⟨_,rfl,_,_,rfl,rfl,⟨by decide,by decide⟩,_,_,rfl,rfl,(by decide:(0:Int) < 7),?_⟩
    have e:=V.int.inj (of_decide_eq_true e)
    obtain ⟨p,vs,rfl,h2,h3⟩:=IsW.lsq hv
    obtain ⟨z,o,j,h4,h5,h6,h7⟩:=pick (pd_mapW h3) (mod_in (c / 3) (m:=7) (by decide)).1 (mod_in (c / 3) (m:=7) (by decide)).2
    obtain ⟨l,xs,rfl,h8,h9⟩:=IsW.lsq h7
    rw [pd_ints h9] at h8
    have hn:=rowsN_no h0 o h6
    exact ⟨p,vs,_,_,rfl,rfl,SqL.of h2,h4,q l H' o g h8 hn.2 (by rw [hn.1,decide_eq_true e]; rfl)⟩
  · have e:¬ c % 3 = 1:=fun z=>e (decide_eq_true (congrArg V.int z))
    refine ⟨_,rfl,_,_,rfl,rfl,⟨by decide,by decide⟩,_,_,rfl,rfl,(by decide:(0:Int) < 2),_,rfl,_,_,rfl,rfl,⟨by decide,by decide⟩,_,_,rfl,rfl,(by decide:(0:Int) < 2),_,rfl,_,_,rfl,rfl,⟨by decide,by decide⟩,_,_,rfl,rfl,(by decide:(0:Int) < 2),by show 3≤sizeLine; decide,fun r hr=>?_⟩
    refine q r _ [c / 3 % 2,c / 6 % 2,c / 12 % 2] (Same.new hr _) upd_same (by show 3≤10; decide) ?_
    rw [decide_eq_false e]
    have z:∀ x:Int,(x % 2 == 0 || x % 2 == 1) = true:=fun x=>by
      have:=mod_in x (m:=2) (by decide)
      have:x % 2 = 0∨x % 2 = 1:=by omega
      rcases this with h | h <;> rw [h] <;> rfl
    unfold rowB
    simp only [List.all_cons,List.all_nil,z]
    rfl
end
end K05
namespace K05
open PySem L2 Sen
section
variable {P:Program} {w:World} {K:PySem.W.Frag} {mg:Str→Option Value} {base:Heap} {a:Ad} {k:Nat}
theorem ok_law_done (T:Txt P w K mg a)
    (G_worth:FnOk P w K mg base (CXE P w) (k + 1) a.a_worth a.d_worth p_worth (spWorth5 a.a_NoOrder a.a_NoSentence a.a_NoMark a.a_NoRow K))
    (G_Book_init:FnOk P w K mg base (CXE P w) k a.a_Book_init a.d_Book_init p_Book_init (spInit5 a.a_Book a.a_NoOrder K))
    (G_Book_enter:FnOk P w K mg base (CXE P w) (k + 1) a.a_Book_enter a.d_Book_enter p_Book_enter (spEnter5 a.a_Book a.a_NoSentence a.a_NoMark))
    (G_words:FnOk P w K mg base (CXE P w) (k + 1) a.a_words a.d_words p_words (spWords5 a.a_NoSentence))
    (G_marks_of:FnOk P w K mg base (CXE P w) (k + 1) a.a_marks_of a.d_marks_of p_marks_of (spMarks5 a.a_NoSentence))
    (G_shown:FnOk P w K mg base (CXE P w) (k + 1) a.a_shown a.d_shown p_shown (spShown5 a.a_NoSentence)) :
    FnOk P w K mg base (CXE P w) (k + 2) a.a_x_law_done a.d_x_law_done p_x_law_done (spDone5 [a.a_NoOrder,a.a_NoSentence,a.a_NoMark,a.a_NoRoom,a.a_NoWord,a.a_NoRow,a.a_NoNumber,a.a_NoNote] K):=by
  refine T.f_x_law_done.F.okE sc_x_law_done (fun vs H Q E h=>?_) (fun cdv A outer s H vs Q E hr h=>?_)
  · obtain ⟨way,o,p,r,w0,ks,w3,rfl,_⟩:=h
    rfl
  obtain ⟨way,o,p,r,w0,ks,w3,rfl,hw,AK,q,qE⟩:=h
  refine ⟨_,(pss_one (ps_if (pt_cmpR op_eq (pv 0) pe_int (nomark _)) (pss_one (ps_expr (pe_callDX passE G_worth hr T.f_worth (pa_cons (pv 2) (pa_cons (pv 1) (pa_cons (pv 3) pa_nil)))))) (pss_one (ps_if (pt_cmpR op_eq (pv 0) pe_int (nomark _)) (pss_one (ps_expr (pe_make T.mk_Book G_Book_init hr rfl T.m_Book T.f_Book_init.b .nil passE (pa_cons (pv 1) pa_nil)))) (pss_one (ps_if (pt_cmpR op_eq (pv 0) pe_int (nomark _)) (pss_one (ps_expr (pe_methDX passE (pe_make T.mk_Book G_Book_init hr rfl T.m_Book T.f_Book_init.b .nil passE (pa_cons (pe_strs (xs:=["a", "b", "c"]) (by rfl)) pa_nil)) T.c_Book T.f_Book_enter G_Book_enter hr (pa_cons (pv 2) pa_nil)))) (pss_one (ps_if (pt_cmpR op_eq (pv 0) pe_int (nomark _)) (pss_one (ps_expr (pe_callDX passE G_words hr T.f_words (pa_cons (pv 2) pa_nil)))) (pss_one (ps_if (pt_cmpR op_eq (pv 0) pe_int (nomark _)) (pss_one (ps_expr (pe_callDX passE G_marks_of hr T.f_marks_of (pa_cons (pv 2) pa_nil)))) (pss_one (ps_expr (pe_callDX passE G_shown hr T.f_shown (pa_cons (pv 2) pa_nil)))))))))))))),?_⟩
  have L:=bookLike a.a_Book
  match way,hw with
  | 0,_ =>
    refine ⟨_,rfl,rfl,_,rfl,ite2 (fun _=>?_) (fun c=>absurd (decide_eq_true rfl) c)⟩
    refine ⟨_,rfl,_,rfl,_,rfl,?_⟩
    obtain ⟨os,ho,hm⟩:=AK.ord
    obtain ⟨ns,hr9,hl,hrow⟩:=AK.row
    cases w0 with
    | true =>
      have hm:os∈badO:=hm
      exact .inr ⟨p,o,r,os,ns,rfl,ho,(badO_no os hm).2,hr9,Nat.le_trans hl (by decide),.inl ⟨(badO_no os hm).1,fun H' g=>qE 0 _ rfl rfl H' g⟩⟩
    | false =>
      have hm:os∈goodO:=hm
      have hm3:os∈([["a", "b", "c"],["c", "a", "b"],["b", "c", "a"]]:List (List Str)):=List.mem_of_mem_take (i:=2) hm
      obtain ⟨z1,z2,z3⟩:=goodO_ok os hm
      rcases AK.sen with ⟨rfl,hs⟩ | ⟨rfl,t,ht,hz⟩ | ⟨rfl,s9,hm9,hs⟩
      · cases w3 with
        | true=>exact .inr ⟨p,o,r,os,ns,rfl,ho,z3,hr9,Nat.le_trans hl (by decide),.inr (.inr ⟨z1,gS,hs,g_lett,by decide,by decide,.inr ⟨g_ok os hm3,by rw [z2]; exact hrow,fun H' g=>qE 5 _ rfl rfl H' g⟩⟩)⟩
        | false =>
          obtain ⟨y1,y2⟩:=rowV_bits hrow
          rw [y1] at hr9
          exact .inl ⟨p,o,r,gS,os,bitsI ns,rfl,hs,ho,hr9,z1,g_ok os hm3,by decide,by decide,by rw [y2,z2],fun H' g=>q rfl H' g⟩
      · exact .inr ⟨p,o,r,os,ns,rfl,ho,z3,hr9,Nat.le_trans hl (by decide),.inr (.inl ⟨z1,t,ht,hz,fun H' g=>qE 1 _ rfl rfl H' g⟩)⟩
      · obtain ⟨y1,y2,y3⟩:=for_lett s9 hm9
        exact .inr ⟨p,o,r,os,ns,rfl,ho,z3,hr9,Nat.le_trans hl (by decide),.inr (.inr ⟨z1,s9,hs,y1,y2,y3,.inl ⟨for_not s9 hm9 os hm3,for_rep s9 hm9,fun H' g=>qE 2 _ rfl rfl H' g⟩⟩)⟩
  | 1,_ =>
    refine ⟨_,rfl,rfl,_,rfl,ite2 (fun c=>absurd (of_decide_eq_true c) (by decide)) (fun _=>?_)⟩
    refine ⟨_,rfl,rfl,_,rfl,ite2 (fun _=>?_) (fun c=>absurd (decide_eq_true rfl) c)⟩
    refine ⟨_,rfl,fun bk dx hbk hdx hne=>?_⟩
    obtain ⟨os,ho,hm⟩:=AK.ord
    have g0:Same H (upd (upd H dx (.own bk)) bk (.ins a.a_Book dx [])):=(Same.new hdx _).trans (Same.new (by rw [upd_ne (Ne.symm hne)]; exact hbk) _)
    cases w0 with
    | true =>
      have hm:os∈badO:=hm
      exact .inr ⟨bk,o,os,rfl,g0.seq ho,(badO_no os hm).2,(badO_no os hm).1,fun H' g=>qE 0 _ rfl rfl H' (g0.trans g)⟩
    | false =>
      have hm:os∈goodO:=hm
      exact .inl ⟨bk,dx,o,os,rfl,upd_same,Ne.symm hne,g0.seq ho,(goodO_ok os hm).1,fun H3 F0 keep hB hF=>⟨rfl,q rfl H3 (made_same hbk hdx keep)⟩⟩
  | 2,_ =>
    refine ⟨_,rfl,rfl,_,rfl,ite2 (fun c=>absurd (of_decide_eq_true c) (by decide)) (fun _=>?_)⟩
    refine ⟨_,rfl,rfl,_,rfl,ite2 (fun c=>absurd (of_decide_eq_true c) (by decide)) (fun _=>?_)⟩
    refine ⟨_,rfl,rfl,_,rfl,ite2 (fun _=>?_) (fun c=>absurd (decide_eq_true rfl) c)⟩
    refine ⟨by show 3≤sizeLine; decide,fun ol hol=>?_⟩
    have g0:=Same.new hol (.lst ((["a", "b", "c"]:List Str).map V.str))
    have e0:upd H ol (.lst ((["a", "b", "c"]:List Str).map V.str)) ol = some _:=upd_same
    generalize upd H ol _ = H0 at g0 e0 ⊢
    have oabc:=(goodO_ok ["a", "b", "c"] (by decide +kernel)).1
    have mabc:(["a", "b", "c"]:List Str)∈([["a", "b", "c"],["c", "a", "b"],["b", "c", "a"]]:List (List Str)):=by decide +kernel
    refine fun bk dx hbk hdx hne=>.inl ⟨bk,dx,ol,_,rfl,upd_same,Ne.symm hne,?_,oabc,fun H3 F0 keep hB hF=>⟨rfl,?_⟩⟩
    · refine SqL.of ?_
      rw [upd_ne (ne_of_none e0 hbk),upd_ne (ne_of_none e0 hdx)]
      exact e0
    have g13:=made_same hbk hdx keep
    have hF1:=made_foot hbk hdx hne hF
    have LD:Led (BookAt a.a_Book) H0 bk ["a", "b", "c"] 2 H3 [none,none] F0:=⟨g13,hF1,hB,Nat.le_refl _⟩
    obtain ⟨dx0,fs,hins,hm⟩:=L.ins hB
    refine ⟨bk,dx0,fs,rfl,hins,hm _ (by decide +kernel),_,rfl,?_⟩
    have g03:=g0.trans g13
    rcases AK.sen with ⟨rfl,hs⟩ | ⟨rfl,t,ht,hz⟩ | ⟨rfl,s9,hm9,hs⟩
    · exact .inl ⟨bk,p,_,[none,none],F0,gS,rfl,hB,by decide,hs.mono (Tups.of g03),g_ok _ mabc,by decide,by decide,fun k9 rs9 F9 H9 aw tu hB9 nf gr hk hy hbd=>q rfl H9 (g0.trans (LD.grow aw hB9 nf hbd).same)⟩
    · exact .inr ⟨bk,p,_,[none,none],F0,rfl,hB,.inl ⟨t,ht.mono (Tups.of g03),hz,fun H' g=>qE 1 _ rfl rfl H' (g03.trans g)⟩⟩
    · obtain ⟨y1,y2,y3⟩:=for_lett s9 hm9
      exact .inr ⟨bk,p,_,[none,none],F0,rfl,hB,.inr ⟨s9,hs.mono (Tups.of g03),y1,y2,y3,for_not s9 hm9 _ mabc,for_rep s9 hm9,fun H' g=>qE 2 _ rfl rfl H' (g03.trans g)⟩⟩
  | 3,_ =>
    refine ⟨_,rfl,rfl,_,rfl,ite2 (fun c=>absurd (of_decide_eq_true c) (by decide)) (fun _=>?_)⟩
    refine ⟨_,rfl,rfl,_,rfl,ite2 (fun c=>absurd (of_decide_eq_true c) (by decide)) (fun _=>?_)⟩
    refine ⟨_,rfl,rfl,_,rfl,ite2 (fun c=>absurd (of_decide_eq_true c) (by decide)) (fun _=>?_)⟩
    refine ⟨_,rfl,rfl,_,rfl,ite2 (fun _=>?_) (fun c=>absurd (decide_eq_true rfl) c)⟩
    refine ⟨_,rfl,?_⟩
    rcases AK.sen with ⟨rfl,hs⟩ | ⟨rfl,t,ht,hz⟩ | ⟨rfl,s9,hm,hs⟩
    · exact .inl ⟨p,gS,rfl,hs,g_lett,by decide,by decide,fun H' g=>q rfl H' g⟩
    · exact .inr ⟨p,t,rfl,ht,hz,fun H' g=>qE 1 _ rfl rfl H' g⟩
    · obtain ⟨z1,z2,z3⟩:=for_lett s9 hm
      exact .inl ⟨p,s9,rfl,hs,z1,z2,z3,fun H' g=>q rfl H' g⟩
  | 4,_ =>
    refine ⟨_,rfl,rfl,_,rfl,ite2 (fun c=>absurd (of_decide_eq_true c) (by decide)) (fun _=>?_)⟩
    refine ⟨_,rfl,rfl,_,rfl,ite2 (fun c=>absurd (of_decide_eq_true c) (by decide)) (fun _=>?_)⟩
    refine ⟨_,rfl,rfl,_,rfl,ite2 (fun c=>absurd (of_decide_eq_true c) (by decide)) (fun _=>?_)⟩
    refine ⟨_,rfl,rfl,_,rfl,ite2 (fun c=>absurd (of_decide_eq_true c) (by decide)) (fun _=>?_)⟩
    refine ⟨_,rfl,rfl,_,rfl,ite2 (fun _=>?_) (fun c=>absurd (decide_eq_true rfl) c)⟩
    refine ⟨_,rfl,?_⟩
    rcases AK.sen with ⟨rfl,hs⟩ | ⟨rfl,t,ht,hz⟩ | ⟨rfl,s9,hm,hs⟩
    · exact .inl ⟨p,gS,rfl,hs,g_lett,by decide,by decide,fun l H' ms g _ _ _ _ _=>q rfl H' g⟩
    · exact .inr ⟨p,t,rfl,ht,hz,fun H' g=>qE 1 _ rfl rfl H' g⟩
    · obtain ⟨z1,z2,z3⟩:=for_lett s9 hm
      exact .inl ⟨p,s9,rfl,hs,z1,z2,z3,fun l H' ms g _ _ _ _ _=>q rfl H' g⟩
  | 5,_ =>
    refine ⟨_,rfl,rfl,_,rfl,ite2 (fun c=>absurd (of_decide_eq_true c) (by decide)) (fun _=>?_)⟩
    refine ⟨_,rfl,rfl,_,rfl,ite2 (fun c=>absurd (of_decide_eq_true c) (by decide)) (fun _=>?_)⟩
    refine ⟨_,rfl,rfl,_,rfl,ite2 (fun c=>absurd (of_decide_eq_true c) (by decide)) (fun _=>?_)⟩
    refine ⟨_,rfl,rfl,_,rfl,ite2 (fun c=>absurd (of_decide_eq_true c) (by decide)) (fun _=>?_)⟩
    refine ⟨_,rfl,rfl,_,rfl,ite2 (fun c=>absurd (of_decide_eq_true c) (by decide)) (fun _=>?_)⟩
    refine ⟨_,rfl,?_⟩
    rcases AK.sen with ⟨rfl,hs⟩ | ⟨rfl,t,ht,hz⟩ | ⟨rfl,s9,hm,hs⟩
    · exact .inl ⟨p,gS,rfl,hs,g_lett,by decide,by decide,fun H' g=>q rfl H' g⟩
    · exact .inr ⟨p,t,rfl,ht,hz,fun H' g=>qE 1 _ rfl rfl H' g⟩
    · obtain ⟨z1,z2,z3⟩:=for_lett s9 hm
      exact .inl ⟨p,s9,rfl,hs,z1,z2,z3,fun H' g=>q rfl H' g⟩
end
end K05
namespace K05
open PySem L2 Sen
section
variable {P:Program} {w:World} {K:PySem.W.Frag} {mg:Str→Option Value} {base:Heap} {a:Ad} {k:Nat}
theorem ok_law_met (T:Txt P w K mg a)
    (G_x_law_done:FnOk P w K mg base (CXE P w) k a.a_x_law_done a.d_x_law_done p_x_law_done (spDone5 [a.a_NoOrder,a.a_NoSentence,a.a_NoMark,a.a_NoRoom,a.a_NoWord,a.a_NoRow,a.a_NoNumber,a.a_NoNote] K))
    (G_x_law_which:∀ ex,FnOkH P w K mg base ex k a.a_x_law_which a.d_x_law_which p_x_law_which (spWhichA K a.a_BookError [a.a_NoOrder,a.a_NoSentence,a.a_NoMark,a.a_NoRoom,a.a_NoWord,a.a_NoRow,a.a_NoNumber,a.a_NoNote] ex)) :
    FnOk P w K mg base CX0 (k + 1) a.a_x_law_met a.d_x_law_met p_x_law_met (spMet5 K):=by
  refine T.f_x_law_met.F.ok sc_x_law_met (fun vs H Q E h=>?_) (fun cdv A outer s H vs Q E hr h=>?_)
  · obtain ⟨way,o,p,r,w0,ks,w3,rfl,_⟩:=h
    rfl
  obtain ⟨way,o,p,r,w0,ks,w3,rfl,hw,AK,q,qE⟩:=h
  refine ⟨_,(pss_cons (ps_setA 4 sc_x_law_met.nd pe_non)
      (pss_cons (ps_try (i:=5) rfl rfl (psxs_one (psx_expr (pex_call G_x_law_done hr rfl T.f_x_law_done.m T.f_x_law_done.F.2 T.f_x_law_done.b .nil rfl (pa_cons (pv 0) (pa_cons (pv 1) (pa_cons (pv 2) (pa_cons (pv 3) pa_nil))))))) (fun ex=>(pss_one (ps_set (i:=4) sc_x_law_met.nd rfl (Or.inl rfl) (pe_callH (G_x_law_which ex) (RoomH.of hr _) rfl rfl T.f_x_law_which.m T.f_x_law_which.F.2 T.f_x_law_which.b .nil (pa_cons (pv 5) pa_nil) (E:=E0))))) rfl T.m_BookError sc_x_law_met.nd rfl rfl)
      (pss_one (ps_ret (pv 4))))),?_⟩
  have xd:=T.xd
  simp only [List.nodup_cons,List.mem_cons,List.not_mem_nil,or_false,not_or] at xd
  refine ⟨_,rfl,_,rfl,_,rfl,_,rfl,way,o,p,r,w0,ks,w3,rfl,hw,AK,fun e H' g=>⟨_,rfl,q e H' g⟩,fun n D hn hD H' g=>?_⟩
  have xo:excL [a.a_NoOrder,a.a_NoSentence,a.a_NoMark,a.a_NoRoom,a.a_NoWord,a.a_NoRow,a.a_NoNumber,a.a_NoNote] a.a_NoOrder = isL (0:Nat):=by
    unfold excL isL
    simp [xd,List.range,List.range.loop]
  have xs:excL [a.a_NoOrder,a.a_NoSentence,a.a_NoMark,a.a_NoRoom,a.a_NoWord,a.a_NoRow,a.a_NoNumber,a.a_NoNote] a.a_NoSentence = isL (1:Nat):=by
    unfold excL isL
    simp [xd,Ne.symm,eq_comm,List.range,List.range.loop]
  have xm:excL [a.a_NoOrder,a.a_NoSentence,a.a_NoMark,a.a_NoRoom,a.a_NoWord,a.a_NoRow,a.a_NoNumber,a.a_NoNote] a.a_NoMark = isL (2:Nat):=by
    unfold excL isL
    simp [xd,Ne.symm,eq_comm,List.range,List.range.loop]
  have xr:excL [a.a_NoOrder,a.a_NoSentence,a.a_NoMark,a.a_NoRoom,a.a_NoWord,a.a_NoRow,a.a_NoNumber,a.a_NoNote] a.a_NoRow = isL (5:Nat):=by
    unfold excL isL
    simp [xd,Ne.symm,eq_comm,List.range,List.range.loop]
  rcases du_in hn with rfl | rfl | rfl | rfl
  · cases hD
    exact ⟨a.a_NoOrder,rfl,exm_of T.xb T.xc_NoOrder,fun e he=>⟨_,rfl,_,rfl,upd_same,T.xc_NoOrder,fun l H'' g'' hl hv=>⟨_,rfl,qE _ l H'' hn ((g.trans (Same.new he _)).trans g'') (by rw [← xo]; exact hv)⟩⟩⟩
  · cases hD
    exact ⟨a.a_NoSentence,rfl,exm_of T.xb T.xc_NoSentence,fun e he=>⟨_,rfl,_,rfl,upd_same,T.xc_NoSentence,fun l H'' g'' hl hv=>⟨_,rfl,qE _ l H'' hn ((g.trans (Same.new he _)).trans g'') (by rw [← xs]; exact hv)⟩⟩⟩
  · cases hD
    exact ⟨a.a_NoMark,rfl,exm_of T.xb T.xc_NoMark,fun e he=>⟨_,rfl,_,rfl,upd_same,T.xc_NoMark,fun l H'' g'' hl hv=>⟨_,rfl,qE _ l H'' hn ((g.trans (Same.new he _)).trans g'') (by rw [← xm]; exact hv)⟩⟩⟩
  · cases hD
    exact ⟨a.a_NoRow,rfl,exm_of T.xb T.xc_NoRow,fun e he=>⟨_,rfl,_,rfl,upd_same,T.xc_NoRow,fun l H'' g'' hl hv=>⟨_,rfl,qE _ l H'' hn ((g.trans (Same.new he _)).trans g'') (by rw [← xr]; exact hv)⟩⟩⟩
end
end K05
namespace K05
open PySem L2 Sen
section
variable {P:Program} {w:World} {K:PySem.W.Frag} {mg:Str→Option Value} {base:Heap} {a:Ad} {k:Nat}
theorem okH_Book_size (T:Txt P w K mg a) (ex:Addr):FnOkH P w K mg base ex (k + 1) a.a_Book_size a.d_Book_size p_Book_size (spBookSize (BookAt a.a_Book)):=by
  refine T.f_Book_size.F.okH sc_Book_size (fun vs H Q E h=>?_) (fun cdv A outer s H vs Q E hr hh h=>?_)
  · obtain ⟨b,os,rs,F,rfl,_⟩:=h
    rfl
  obtain ⟨b,os,rs,F,rfl,⟨dx,ml,rl,tl,nd,rv,ts,kvs,h⟩,q⟩:=h
  refine ⟨_,(pss_one (ps_ret (pe_callB call_len_seq rfl T.n_len bt_len (pa_cons (pe_fld (pv 0) rfl) pa_nil)))),?_⟩
  refine ⟨_,rfl,b,a.a_Book,dx,_,_,rfl,h.hb,T.c_Book,T.na_Book_rooms,rfl,rl,_,rfl,.inl (SqL.of h.hr),?_⟩
  rw [h.len]
  exact q H (Same.refl _)
theorem ok_law_entered (T:Txt P w K mg a)
    (G_Book_init:FnOk P w K mg base CX0 k a.a_Book_init a.d_Book_init p_Book_init (spBookInit (BookAt a.a_Book) K a.a_Book))
    (G_Book_enter:FnOk P w K mg base (CXE P w) (k + 1) a.a_Book_enter a.d_Book_enter p_Book_enter (spEnter5 a.a_Book a.a_NoSentence a.a_NoMark))
    (G_Book_size:∀ ex,FnOkH P w K mg base ex (k + 1) a.a_Book_size a.d_Book_size p_Book_size (spBookSize (BookAt a.a_Book))) :
    FnOk P w K mg base CX0 (k + 2) a.a_x_law_entered a.d_x_law_entered p_x_law_entered spEntered5:=by
  refine T.f_x_law_entered.F.ok sc_x_law_entered (fun vs H Q E h=>?_) (fun cdv A outer s H vs Q E hr h=>?_)
  · obtain ⟨p,ks,rfl,_⟩:=h
    rfl
  obtain ⟨p,ks,rfl,hs,q⟩:=h
  refine ⟨_,(pss_cons (ps_setA 2 sc_x_law_entered.nd (pe_make T.mk_Book G_Book_init hr rfl T.m_Book T.f_Book_init.b .nil pass0 (pa_cons (pe_strs (xs:=["b", "c", "a"]) (by rfl)) pa_nil)))
      (pss_cons (ps_try0 rfl rfl (psxs_one (psx_expr (pex_meth (pv 2) T.c_Book T.f_Book_enter.e G_Book_enter hr T.f_Book_enter.b .nil rfl (pa_cons (pv 0) pa_nil)))) (fun ex=>(pss_one (ps_ret (pe_and (pe_not (pv 1)) (pe_one (pe_cmpR op_eq (pe_meth0H (pv 2) T.c_Book T.f_Book_size (G_Book_size ex) (RoomH.of hr _) rfl) pe_int (nomark _))))))) rfl T.m_BookError)
      (pss_one (ps_ret (pv 1))))),?_⟩
  have L:=bookLike a.a_Book
  refine ⟨by show 3≤sizeLine; decide,fun ol hol=>?_⟩
  have g0:=Same.new hol (.lst ((["b", "c", "a"]:List Str).map V.str))
  have e0:upd H ol (.lst ((["b", "c", "a"]:List Str).map V.str)) ol = some _:=upd_same
  generalize upd H ol _ = H0 at g0 e0 ⊢
  have obca:IsOrd ["b", "c", "a"]:=⟨by decide +kernel,by decide +kernel,by decide⟩
  have mbca:(["b", "c", "a"]:List Str)∈([["a", "b", "c"],["c", "a", "b"],["b", "c", "a"]]:List (List Str)):=by decide +kernel
  refine fun bk dx hbk hdx hne=>⟨bk,dx,ol,_,rfl,upd_same,Ne.symm hne,?_,obca,fun H3 F0 keep hB hF=>⟨rfl,?_⟩⟩
  · refine SqL.of ?_
    rw [upd_ne (ne_of_none e0 hbk),upd_ne (ne_of_none e0 hdx)]
    exact e0
  have g13:=made_same hbk hdx keep
  obtain ⟨dx0,fs,hins,hm⟩:=L.ins hB
  have g03:=g0.trans g13
  refine ⟨_,rfl,bk,dx0,fs,rfl,hins,hm _ (by decide +kernel),_,rfl,?_⟩
  rcases hs with ⟨rfl,hs⟩ | ⟨rfl,t,ht,hz⟩ | ⟨rfl,s9,hm9,hs⟩
  · exact .inl ⟨bk,p,_,[none,none],F0,gS,rfl,hB,by decide,hs.mono (Tups.of g03),g_ok _ mbca,by decide,by decide,fun k9 rs9 F9 H9 aw tu hB9 nf gr hk hy hbd=>⟨_,rfl,q _⟩⟩
  · refine .inr ⟨bk,p,_,[none,none],F0,rfl,hB,.inl ⟨t,ht.mono (Tups.of g03),hz,fun H' g=>⟨a.a_NoSentence,rfl,exm_of T.xb T.xc_NoSentence,fun e he=>?_⟩⟩⟩
    have gz:=g.trans (Same.new he (excO e a.a_NoSentence))
    have hB2:=L.same hB gz
    obtain ⟨dx2,fs2,hins2,hm2⟩:=L.ins hB2
    exact ⟨_,rfl,_,rfl,_,rfl,ite2 (fun _=>⟨_,rfl,bk,dx2,fs2,rfl,hins2,hm2 _ (by decide +kernel),bk,_,_,_,rfl,hB2,fun H5 g5=>⟨rfl,q _⟩⟩) (fun z=>absurd rfl z)⟩
  · obtain ⟨y1,y2,y3⟩:=for_lett s9 hm9
    refine .inr ⟨bk,p,_,[none,none],F0,rfl,hB,.inr ⟨s9,hs.mono (Tups.of g03),y1,y2,y3,for_not s9 hm9 _ mbca,for_rep s9 hm9,fun H' g=>⟨a.a_NoMark,rfl,exm_of T.xb T.xc_NoMark,fun e he=>?_⟩⟩⟩
    have gz:=g.trans (Same.new he (excO e a.a_NoMark))
    have hB2:=L.same hB gz
    obtain ⟨dx2,fs2,hins2,hm2⟩:=L.ins hB2
    exact ⟨_,rfl,_,rfl,_,rfl,ite2 (fun _=>⟨_,rfl,bk,dx2,fs2,rfl,hins2,hm2 _ (by decide +kernel),bk,_,_,_,rfl,hB2,fun H5 g5=>⟨rfl,q _⟩⟩) (fun z=>absurd rfl z)⟩
end
end K05
namespace K05
open PySem L2 Sen
section
variable {P:Program} {w:World} {K:PySem.W.Frag} {mg:Str→Option Value} {base:Heap} {a:Ad} {k:Nat}
theorem ok_cell_f (T:Txt P w K mg a):FnOk P w K mg base CX0 (k + 1) a.a_x_law_cell_at a.d_x_law_cell_at p_x_law_cell_at (spCellF K):=by
  refine T.f_x_law_cell_at.F.ok sc_x_law_cell_at (fun vs H Q E h=>?_) (fun cdv A outer s H vs Q E hr h=>?_)
  · obtain ⟨l,ns,i,rfl,_⟩:=h
    rfl
  obtain ⟨l,ns,i,rfl,hS,q⟩:=h
  refine ⟨_,(pss_cons (ps_if (pt_cmpR op_lt (pv 1) (pe_callB call_len_seq rfl T.n_len bt_len (pa_cons (pv 0) pa_nil)) (nomark _)) (pss_one (ps_ret (pe_ix ix_list (pv 0) (pv 1) (fun _ _=>rfl)))) pss_nil)
      (pss_one (ps_ret pe_int))),?_⟩
  refine ⟨_,rfl,_,rfl,l,_,rfl,.inl hS,_,_,rfl,rfl,_,rfl,?_⟩
  refine ite2 (fun c=>?_) (fun c=>?_)
  · have c':(i:Int) < (((ns.map V.int).length:Nat):Int):=of_decide_eq_true c
    rw [List.length_map] at c'
    have hi:i < ns.length:=by omega
    have ec:cellF ns i = ns[i]:=by unfold cellF; rw [List.getElem?_eq_getElem hi]; rfl
    rw [ec] at q
    exact ⟨_,rfl,_,rfl,l,_,i,_,rfl,rfl,hS,atI_nat (by rw [List.getElem?_map,List.getElem?_eq_getElem hi]; rfl),q⟩
  · have hi:ns.length≤i:=by
      refine Nat.le_of_not_lt fun hlt=>c (decide_eq_true ?_)
      rw [List.length_map]; omega
    have ec:cellF ns i = 0:=by unfold cellF; rw [List.getElem?_eq_none hi]; rfl
    rw [ec] at q
    exact q
theorem ok_law_which (T:Txt P w K mg a) (ex:Addr):FnOkH P w K mg base ex (k + 1) a.a_x_law_which a.d_x_law_which p_x_law_which (spWhichA K a.a_BookError [a.a_NoOrder,a.a_NoSentence,a.a_NoMark,a.a_NoRoom,a.a_NoWord,a.a_NoRow,a.a_NoNumber,a.a_NoNote] ex):=by
  refine T.f_x_law_which.F.okH sc_x_law_which (fun vs H Q E h=>?_) (fun cdv A outer s H vs Q E hr hh h=>?_)
  · obtain ⟨D,rfl,_⟩:=h
    rfl
  obtain ⟨D,rfl,he,xc,q⟩:=h
  refine ⟨_,(pss_cons (ps_setA 1 sc_x_law_which.nd (pe_lst (pa_cons (pe_callB (call_isiX (K:=K) rfl) rfl T.n_isinstance bt_isinstance (pa_cons (pv 0) (pa_cons (pe_glob (v:=.ref a.a_NoOrder) rfl T.m_NoOrder rfl) pa_nil))) (pa_cons (pe_callB (call_isiX (K:=K) rfl) rfl T.n_isinstance bt_isinstance (pa_cons (pv 0) (pa_cons (pe_glob (v:=.ref a.a_NoSentence) rfl T.m_NoSentence rfl) pa_nil))) (pa_cons (pe_callB (call_isiX (K:=K) rfl) rfl T.n_isinstance bt_isinstance (pa_cons (pv 0) (pa_cons (pe_glob (v:=.ref a.a_NoMark) rfl T.m_NoMark rfl) pa_nil))) (pa_cons (pe_callB (call_isiX (K:=K) rfl) rfl T.n_isinstance bt_isinstance (pa_cons (pv 0) (pa_cons (pe_glob (v:=.ref a.a_NoRoom) rfl T.m_NoRoom rfl) pa_nil))) pa_nil))))))
      (pss_cons (ps_setA 1 sc_x_law_which.nd (pe_op op_addL (pv 1) (pe_lst (pa_cons (pe_callB (call_isiX (K:=K) rfl) rfl T.n_isinstance bt_isinstance (pa_cons (pv 0) (pa_cons (pe_glob (v:=.ref a.a_NoWord) rfl T.m_NoWord rfl) pa_nil))) (pa_cons (pe_callB (call_isiX (K:=K) rfl) rfl T.n_isinstance bt_isinstance (pa_cons (pv 0) (pa_cons (pe_glob (v:=.ref a.a_NoRow) rfl T.m_NoRow rfl) pa_nil))) (pa_cons (pe_callB (call_isiX (K:=K) rfl) rfl T.n_isinstance bt_isinstance (pa_cons (pv 0) (pa_cons (pe_glob (v:=.ref a.a_NoNumber) rfl T.m_NoNumber rfl) pa_nil))) (pa_cons (pe_callB (call_isiX (K:=K) rfl) rfl T.n_isinstance bt_isinstance (pa_cons (pv 0) (pa_cons (pe_glob (v:=.ref a.a_NoNote) rfl T.m_NoNote rfl) pa_nil))) pa_nil)))))))
      (pss_cons (ps_expr (pe_bm PySem.F.plainAttrs_list PySem.F.slot_list_append PySem.F.type_list_append mt_append (pv 1) (pa_cons (pe_callB (call_isiX (K:=K) rfl) rfl T.n_isinstance bt_isinstance (pa_cons (pv 0) (pa_cons (pe_bltn (v:=.ty "ValueError") rfl T.n_ValueError bt_ValueError rfl) pa_nil))) pa_nil)))
      (pss_one (ps_ret (pv 1)))))),?_⟩
  have nb:=T.xd
  simp only [List.nodup_cons,List.mem_cons,List.not_mem_nil,or_false,not_or] at nb
  obtain ⟨⟨b1,b2,b3,b4,b5,b6,b7,b8⟩,_⟩:=nb
  have cl:=xc.xcls
  have s1:∀ {H':Hp},Same H H'→H' ex = some (excO ex D):=fun g=>g _ _ he
  refine ⟨_,rfl,ex,D,_,_,rfl,he,cl,rfl,kit_eq xc T.ac_NoOrder b1,_,rfl,ex,D,_,_,rfl,he,cl,rfl,kit_eq xc T.ac_NoSentence b2,_,rfl,ex,D,_,_,rfl,he,cl,rfl,kit_eq xc T.ac_NoMark b3,_,rfl,ex,D,_,_,rfl,he,cl,rfl,kit_eq xc T.ac_NoRoom b4,by show 4≤sizeLine; decide,fun l1 h1=>?_⟩
  have g1:=Same.new h1 (.lst [.bl (decide (D = a.a_NoOrder)),.bl (decide (D = a.a_NoSentence)),.bl (decide (D = a.a_NoMark)),.bl (decide (D = a.a_NoRoom))])
  have e1:=s1 g1
  have f1:upd H l1 (.lst [.bl (decide (D = a.a_NoOrder)),.bl (decide (D = a.a_NoSentence)),.bl (decide (D = a.a_NoMark)),.bl (decide (D = a.a_NoRoom))]) l1 = some _:=upd_same
  generalize upd H l1 _ = H1 at g1 e1 f1
  refine ⟨_,rfl,_,rfl,ex,D,_,_,rfl,e1,cl,rfl,kit_eq xc T.ac_NoWord b5,_,rfl,ex,D,_,_,rfl,e1,cl,rfl,kit_eq xc T.ac_NoRow b6,_,rfl,ex,D,_,_,rfl,e1,cl,rfl,kit_eq xc T.ac_NoNumber b7,_,rfl,ex,D,_,_,rfl,e1,cl,rfl,kit_eq xc T.ac_NoNote b8,by show 4≤sizeLine; decide,fun l2 h2=>?_⟩
  have g2:=Same.new h2 (.lst [.bl (decide (D = a.a_NoWord)),.bl (decide (D = a.a_NoRow)),.bl (decide (D = a.a_NoNumber)),.bl (decide (D = a.a_NoNote))])
  have f2:upd H1 l2 (.lst [.bl (decide (D = a.a_NoWord)),.bl (decide (D = a.a_NoRow)),.bl (decide (D = a.a_NoNumber)),.bl (decide (D = a.a_NoNote))]) l2 = some _:=upd_same
  generalize upd H1 l2 _ = H2 at g2 f2
  refine ⟨l1,l2,_,_,rfl,rfl,SqL.of (g2 _ _ f1),SqL.of f2,by show 8≤sizeLine; decide,fun l3 h3=>?_⟩
  have n3:H l3 = none:=(g1.trans g2).free h3
  have g3:=Same.new h3 (.lst ([.bl (decide (D = a.a_NoOrder)),.bl (decide (D = a.a_NoSentence)),.bl (decide (D = a.a_NoMark)),.bl (decide (D = a.a_NoRoom))] ++ [.bl (decide (D = a.a_NoWord)),.bl (decide (D = a.a_NoRow)),.bl (decide (D = a.a_NoNumber)),.bl (decide (D = a.a_NoNote))]))
  have f3:upd H2 l3 (.lst ([.bl (decide (D = a.a_NoOrder)),.bl (decide (D = a.a_NoSentence)),.bl (decide (D = a.a_NoMark)),.bl (decide (D = a.a_NoRoom))] ++ [.bl (decide (D = a.a_NoWord)),.bl (decide (D = a.a_NoRow)),.bl (decide (D = a.a_NoNumber)),.bl (decide (D = a.a_NoNote))])) l3 = some _:=upd_same
  generalize upd H2 l3 _ = H3 at g3 f3
  have g03:=(g1.trans g2).trans g3
  refine ⟨_,rfl,.inl ⟨rfl,_,SqL.of f3⟩,_,rfl,ex,D,_,_,rfl,s1 g03,cl,rfl,kit_ve xc,l3,_,_,rfl,rfl,f3,by show 8 < sizeLine; decide,?_⟩
  exact ⟨_,rfl,q l3 _ (g03.over n3 _) n3 upd_same⟩
theorem ok_law_is (T:Txt P w K mg a):FnOk P w K mg base CX0 (k + 1) a.a_x_law_is a.d_x_law_is p_x_law_is (spIsA K):=by
  refine T.f_x_law_is.F.ok sc_x_law_is (fun vs H Q E h=>?_) (fun cdv A outer s H vs Q E hr h=>?_)
  · obtain ⟨l,bs,due,rfl,_⟩:=h
    rfl
  obtain ⟨l,bs,due,rfl,hl,q⟩:=h
  refine ⟨_,(pss_one (ps_ret (pe_cmpR (op_eqD rfl (hu8 hr)) (pv 0) (pe_lc0 (osc:=defScope S_x_law_is) (js:=[1]) rfl (by show LcOk _ _ "k" ["due"]; exact lco (by decide +kernel)) rfl (pi_range1 rfl T.n_range (pa_cons pe_int pa_nil)) (by show ∀ j∈([1]:List Nat),j < 2; decide) (fun cl C s₂ H₂ fp=>(pe_or (pe_cmpR op_eq (pv 0) (pv 1) (nomark _)) (pe_one (pe_cmpR op_eq (pv 0) pe_int (nomark _)))))) (nomark _)))),?_⟩
  refine ⟨_,rfl,9,rfl,by decide,by decide,?_⟩
  refine lc_rngC (n:=9) (fun i ys H'=>Same H H'∧ys = ((List.range i).map fun (k:Nat)=>decide ((k:Int) = due) || decide ((k:Int) = 8)).map V.bl) ⟨Same.refl _,rfl⟩ (by decide) (fun i ys H' _ ⟨_,e⟩=>by rw [e,List.length_map,List.length_map,List.length_range]; exact Nat.le_refl _) ?_ ?_
  · rintro i ys H' Q' hi ⟨g,rfl⟩ hQ
    have key:∀ b:Bool,b = (decide ((i:Int) = due) || decide ((i:Int) = 8))→Q' (.bl b) H':=fun b hb=>by
      refine hQ _ _ ⟨g,?_⟩
      rw [List.range_succ,List.map_append,List.map_append,hb]
      rfl
    have ei:(0:Int) + (i:Int) = (i:Int):=by omega
    refine ⟨_,rfl,_,rfl,rfl,_,rfl,ite2 (fun c=>key true ?_) (fun c=>⟨_,rfl,rfl,key _ ?_⟩)⟩
    · have c:=V.int.inj (of_decide_eq_true c)
      rw [ei] at c
      rw [decide_eq_true c]; rfl
    · have c:¬ (i:Int) = due:=fun z=>c (by rw [ei,z]; exact decide_eq_true rfl)
      rw [decide_eq_false c,ei,Bool.false_or]
      by_cases z:(i:Int) = 8
      · rw [decide_eq_true z,z]; exact decide_eq_true rfl
      · rw [decide_eq_false z]
        exact decide_eq_false (fun y=>z (V.int.inj y))
  rintro ys H' p ⟨g,rfl⟩ hp
  have g2:=Same.new hp (.lst (((List.range 9).map fun (k:Nat)=>decide ((k:Int) = due) || decide ((k:Int) = 8)).map V.bl))
  exact ⟨_,fun z=>absurd z.1 Bool.false_ne_true,eq_blsB ((g.trans g2).seq hl) (SqL.of upd_same),q _ (g.trans g2)⟩
end
end K05
namespace K05
open PySem L2 Sen
section
variable {P:Program} {w:World} {K:PySem.W.Frag} {mg:Str→Option Value} {base:Heap} {a:Ad} {k:Nat}
theorem ok_law (T:Txt P w K mg a)
    (G_x_law_cell_at:FnOk P w K mg base CX0 (k + 1) a.a_x_law_cell_at a.d_x_law_cell_at p_x_law_cell_at (spCellF K))
    (G_x_law_order_by:FnOk P w K mg base CX0 (k + 1) a.a_x_law_order_by a.d_x_law_order_by p_x_law_order_by spOrderBy)
    (G_x_law_sentence_by:FnOk P w K mg base CX0 (k + 1) a.a_x_law_sentence_by a.d_x_law_sentence_by p_x_law_sentence_by spSenBy)
    (G_x_law_row_by:FnOk P w K mg base CX0 (k + 1) a.a_x_law_row_by a.d_x_law_row_by p_x_law_row_by spRowBy)
    (G_x_law_met:FnOk P w K mg base CX0 (k + 1) a.a_x_law_met a.d_x_law_met p_x_law_met (spMet5 K))
    (G_x_law_entered:FnOk P w K mg base CX0 (k + 1) a.a_x_law_entered a.d_x_law_entered p_x_law_entered spEntered5)
    (G_x_law_is:FnOk P w K mg base CX0 (k + 1) a.a_x_law_is a.d_x_law_is p_x_law_is (spIsA K)) :
    FnOk P w K mg base CX0 (k + 2) a.a_law a.d_law p_law (spLaw K):=by
  refine T.f_law.F.ok sc_law (fun vs H Q E h=>?_) (fun cdv A outer s H vs Q E hr h=>?_)
  · obtain ⟨a,ns,rfl,_⟩:=h
    rfl
  obtain ⟨sc,ns,rfl,hS,h63,q⟩:=h
  refine ⟨_,(pss_cons (ps_setLC (tt:=tYes) (i:=1) sc_law.nd rfl (Or.inl rfl) (.inl rfl) (osc:=defScope S_law) (js:=[0]) rfl (by show LcOk _ _ "k" ["script"]; exact lco (by decide +kernel)) rfl (pi_range1 rfl T.n_range (pa_cons pe_int pa_nil)) (by show ∀ j∈([0]:List Nat),j < 10; decide) (fun cl C s₂ H₂ fp pins s' σ' H' Q I h=>wpAny_pure ⟨H',I,h⟩) (fun cl C s₂ H₂ fp=>(pe_callD G_x_law_cell_at hr T.f_x_law_cell_at (pa_cons (pv 1) (pa_cons (pv 0) pa_nil)))) rfl)
      (pss_cons (ps_setA 2 sc_law.nd (pe_callD G_x_law_order_by hr T.f_x_law_order_by (pa_cons (pe_ix ix_list (pv 1) pe_int (fun _ _=>rfl)) pa_nil)))
      (pss_cons (ps_setA 3 sc_law.nd (pe_callD G_x_law_sentence_by hr T.f_x_law_sentence_by (pa_cons (pe_ix ix_list (pv 1) pe_int (fun _ _=>rfl)) pa_nil)))
      (pss_cons (ps_setA 4 sc_law.nd (pe_callD G_x_law_row_by hr T.f_x_law_row_by (pa_cons (pe_ix ix_list (pv 1) pe_int (fun _ _=>rfl)) (pa_cons (pe_op op_mod (pe_ix ix_list (pv 1) pe_int (fun _ _=>rfl)) (pe_op op_pow pe_int pe_int)) pa_nil))))
      (pss_cons (ps_set (i:=5) sc_law.nd rfl (Or.inr rfl) (pe_lst (pa_cons (pe_cmpR op_eq (pe_op op_mod (pe_ix ix_list (pv 1) pe_int (fun _ _=>rfl)) pe_int) pe_int (nomark _)) (pa_cons (pe_or (pe_cmpR op_eq (pe_op op_mod (pe_ix ix_list (pv 1) pe_int (fun _ _=>rfl)) pe_int) pe_int (nomark _)) (pe_one (pe_and (pe_cmpR op_eq (pe_op op_mod (pe_ix ix_list (pv 1) pe_int (fun _ _=>rfl)) pe_int) pe_int (nomark _)) (pe_one (pe_cmpR op_eq (pe_op op_mod (pe_op op_fdiv (pe_ix ix_list (pv 1) pe_int (fun _ _=>rfl)) pe_int) pe_int) pe_int (nomark _)))))) pa_nil))))
      (pss_cons (ps_set (i:=5) sc_law.nd rfl (Or.inr rfl) (pe_op op_addL (pv 5) (pe_lst (pa_cons (pe_cmpR op_eq (pe_op op_mod (pe_ix ix_list (pv 1) pe_int (fun _ _=>rfl)) pe_int) pe_int (nomark _)) (pa_cons (pe_cmpR op_eq (pe_op op_mod (pe_ix ix_list (pv 1) pe_int (fun _ _=>rfl)) pe_int) pe_int (nomark _)) pa_nil)))))
      (@pss_cons _ _ _ _ _ (@ps_setA _ _ 6 _ _ _ _ (by exact sc_law.nd) (@pe_lit0 _ _ (askD) 9 (by rfl)) (by rfl) (by first | exact Or.inl rfl | exact Or.inr rfl) (by rfl) (by first | exact .inl rfl | exact .inr rfl))
      (by exact (pss_cons (ps_for PassesOwn.never rfl (pi_range1 rfl T.n_range (pa_cons pe_int pa_nil)) (pg_name (i:=7) sc_law.nd rfl (Or.inl rfl)) (pss_cons (ps_setLC (i:=8) sc_law.nd rfl (Or.inl rfl) (.inl rfl) (osc:=defScope S_law) (js:=[5]) rfl (by show LcOk _ _ "k" ["wrong"]; exact lco (by decide +kernel)) rfl (pi_list (pe_ix ix_list (pv 6) (pv 7) (fun _ _=>rfl))) (by show ∀ j∈([5]:List Nat),j < 10; decide) (fun cl C s₂ H₂ fp pins s' σ' H' Q I h=>tests_by I h (pt_truthK (K:=K) rfl (pe_ix (ix_listK (K:=K) rfl) (pv 1) (pv 0) (fun _ _=>rfl)) (fun _=>rfl))) (fun cl C s₂ H₂ fp=>(pe_ix (ix_listK (K:=K) rfl) (pe_lst (pa_cons pe_int (pa_cons pe_int (pa_cons pe_int (pa_cons pe_int pa_nil))))) (pv 0) (fun _ _=>rfl))) rfl)
      (pss_cons (ps_setA 9 sc_law.nd (pe_callD G_x_law_met hr T.f_x_law_met (pa_cons (pv 7) (pa_cons (pe_callTy call_list_of rfl T.n_list bt_list (pa_cons (pv 2) pa_nil)) (pa_cons (pv 3) (pa_cons (pe_callTy call_list_of rfl T.n_list bt_list (pa_cons (pv 4) pa_nil)) pa_nil))))))
      (pss_one (ps_if (PW.pt (pw_or (PW.pt (pw_and (pt_cmpR (op_eqD (K:=K) rfl (hu8 hr)) (pv 8) (pe_lst pa_nil) (nomark _)) (pw_and1 (pt_cmpR op_notN (pv 9) pe_non (nomark _))))) (pw_or1 (PW.pt (pw_and (pt_cmpR (op_neD (K:=K) rfl (hu8 hr)) (pv 8) (pe_lst pa_nil) (nomark _)) (pw_and1 (PW.pt (pw_or (pt_cmpR op_isN (pv 9) pe_non (nomark _)) (pw_or1 (pt_not (pt_truth (pe_callD G_x_law_is hr T.f_x_law_is (pa_cons (pv 9) (pa_cons (pe_ix ix_list (pv 8) pe_int (fun _ _=>rfl)) pa_nil))) (fun _=>rfl)))))))))))) (pss_one (ps_ret pe_bl)) pss_nil)))))
      (pss_one (ps_ret (pe_callD G_x_law_entered hr T.f_x_law_entered (pa_cons (pv 3) (pa_cons (pe_and (pe_not (pe_ix ix_list (pv 5) pe_int (fun _ _=>rfl))) (pe_one (pe_not (pe_ix ix_list (pv 5) pe_int (fun _ _=>rfl))))) pa_nil)))))))))))))),?_⟩
  refine ⟨4,rfl,by decide,by decide,?_⟩
  refine lc_rngC (n:=4) (fun i ys H'=>H' = H∧ys = ((List.range i).map fun k=>V.int (cellF ns k))) ⟨rfl,rfl⟩ (by decide) (fun i ys H' _ ⟨_,e⟩=>by rw [e,List.length_map,List.length_range]; exact Nat.le_refl _) ?_ ?_
  · rintro i ys H' Q' hi ⟨rfl,rfl⟩ hQ
    refine ⟨_,rfl,_,rfl,sc,ns,i,?_,hS,hQ _ _ ⟨rfl,?_⟩⟩
    · show [V.ref sc,V.int ((0:Int) + (i:Int))] = _
      rw [Int.zero_add]
    · rw [List.range_succ,List.map_append]; rfl
  rintro ys H' cl ⟨rfl,rfl⟩ hcl
  have g1:=Same.new hcl (.lst ((List.range 4).map fun k=>V.int (cellF ns k)))
  have e1:upd H' cl (.lst ((List.range 4).map fun k=>V.int (cellF ns k))) cl = some (.lst [.int (cellF ns 0),.int (cellF ns 1),.int (cellF ns 2),.int (cellF ns 3)]):=upd_same
  generalize upd H' cl _ = H1 at g1 e1 ⊢
  generalize cellF ns 0 = c0 at e1
  generalize cellF ns 1 = c1 at e1
  generalize cellF ns 2 = c2 at e1
  generalize cellF ns 3 = c3 at e1
  have at0:∀ {H9:Hp},Same H1 H9→SqL K H9 cl [.int c0,.int c1,.int c2,.int c3]:=fun g=>SqL.of (g _ _ e1)
  refine ⟨_,rfl,cl,_,_,_,rfl,rfl,at0 (Same.refl _),atI_nat (j:=0) rfl,c0,rfl,fun o H2 os g2 ho hos=>?_⟩
  refine ⟨_,rfl,cl,_,_,_,rfl,rfl,at0 g2,atI_nat (j:=1) rfl,c1,rfl,fun p H3 g3 hp=>?_⟩
  have g13:=g2.trans g3
  refine ⟨_,rfl,cl,_,_,_,rfl,rfl,at0 g13,atI_nat (j:=2) rfl,_,rfl,cl,_,_,_,rfl,rfl,at0 g13,atI_nat (j:=3) rfl,_,_,rfl,rfl,⟨by decide,by decide,by decide⟩,_,_,rfl,rfl,(by show (0:Int) < 10 ^ 50; decide),c2,_,rfl,Int.emod_nonneg _ (by decide),fun r H4 rn g4 hr4 hl4 hb4=>?_⟩
  have g14:=g13.trans g4
  have p3:(0:Int) < 3:=by decide
  have p4:(0:Int) < 4:=by decide
  refine ⟨_,rfl,cl,_,_,_,rfl,rfl,at0 g14,atI_nat (j:=0) rfl,_,_,rfl,rfl,p3,rfl,?_⟩
  refine val_or (b1:=decide (c1 % 4 = 1)) (b2:=decide (c1 % 4 = 3) && decide (c1 / 4 % 4 = 1)) (fun Q hQ=>⟨_,rfl,cl,_,_,_,rfl,rfl,at0 g14,atI_nat (j:=1) rfl,_,_,rfl,rfl,p4,rfl,by rw [← decI] at hQ; exact hQ⟩) (fun Q hQ=>?_) ?_
  · refine val_and (b1:=decide (c1 % 4 = 3)) (b2:=decide (c1 / 4 % 4 = 1)) (fun Q hQ=>⟨_,rfl,cl,_,_,_,rfl,rfl,at0 g14,atI_nat (j:=1) rfl,_,_,rfl,rfl,p4,rfl,by rw [← decI] at hQ; exact hQ⟩) (fun Q hQ=>⟨_,rfl,cl,_,_,_,rfl,rfl,at0 g14,atI_nat (j:=1) rfl,_,_,rfl,rfl,⟨by decide,by decide⟩,_,_,rfl,rfl,p4,rfl,by rw [← decI] at hQ; exact hQ⟩) hQ
  refine ⟨by show 2≤sizeLine; decide,fun w1 hw1=>?_⟩
  have g5:=Same.new hw1 (.lst [.bl (decide (V.int (c0 % 3) = V.int 1)),.bl (decide (c1 % 4 = 1) || (decide (c1 % 4 = 3) && decide (c1 / 4 % 4 = 1)))])
  have e5:upd H4 w1 (.lst [.bl (decide (V.int (c0 % 3) = V.int 1)),.bl (decide (c1 % 4 = 1) || (decide (c1 % 4 = 3) && decide (c1 / 4 % 4 = 1)))]) w1 = some _:=upd_same
  generalize upd H4 w1 _ = H5 at g5 e5 ⊢
  rw [kind1,decI] at e5
  have g15:=g14.trans g5
  refine ⟨_,rfl,_,rfl,cl,_,_,_,rfl,rfl,at0 g15,atI_nat (j:=1) rfl,_,_,rfl,rfl,p4,rfl,_,rfl,cl,_,_,_,rfl,rfl,at0 g15,atI_nat (j:=2) rfl,_,_,rfl,rfl,p3,rfl,by show 2≤sizeLine; decide,fun w2 hw2=>?_⟩
  have g6:=Same.new hw2 (.lst [.bl (decide (V.int (c1 % 4) = V.int 2)),.bl (decide (V.int (c2 % 3) = V.int 1))])
  have e6:upd H5 w2 (.lst [.bl (decide (V.int (c1 % 4) = V.int 2)),.bl (decide (V.int (c2 % 3) = V.int 1))]) w2 = some _:=upd_same
  generalize upd H5 w2 _ = H6 at g6 e6 ⊢
  rw [decI,decI,kind2] at e6
  refine ⟨w1,w2,_,_,rfl,rfl,SqL.of (g6 _ _ e5),SqL.of e6,by show 4≤sizeLine; decide,fun wl hwl=>?_⟩
  have hkl:=kind_lt c1
  have hos:os∈(if decide (c0 % 3 = 1) = true then badO else goodO):=by
    by_cases h:c0 % 3 = 1
    · rw [if_pos (decide_eq_true h)]; rw [if_pos h] at hos; exact hos
    · rw [if_neg (by rw [decide_eq_false h]; exact Bool.false_ne_true)]; rw [if_neg h] at hos; exact hos
  have g46:=g5.trans g6
  have g26:=(g3.trans g4).trans g46
  have hp6:=hp.mono (g4.trans g46)
  have ho6:=g26 _ _ ho
  have hr6:=g46 _ _ hr4
  clear at0 e1 e5 e6 hp ho hr4 g1 g2 g3 g4 g5 g6 g13 g14 g15 g46 g26 hw1 hw2
  generalize kindS c1 = ks at hkl hp6 hwl ⊢
  generalize decide (c0 % 3 = 1) = w0 at hos hwl ⊢
  generalize decide (c2 % 3 = 1) = w3 at hb4 hwl ⊢
  have g7:=Same.new hwl (.lst ((wrL w0 ks w3).map V.bl))
  have e7:upd H6 wl (.lst ((wrL w0 ks w3).map V.bl)) wl = some _:=upd_same
  show tSeq _ _ _ _ (upd H6 wl (.lst ((wrL w0 ks w3).map V.bl)))
  generalize upd H6 wl (.lst ((wrL w0 ks w3).map V.bl)) = H7 at g7 e7 ⊢
  refine ⟨hol0,fun v8 H8 g8 hv8=>?_⟩
  obtain ⟨al,xs8,rfl,h8,d8⟩:=IsW.lsq hv8
  have hp8:=(hp6.mono g7).mono g8
  have ho8:=g8 _ _ (g7 _ _ ho6)
  have hr8:=g8 _ _ (g7 _ _ hr6)
  have hw8:=g8 _ _ e7
  clear hv8 g8 g7 e7 hp6 ho6 hr6 hwl
  refine ⟨6,rfl,by decide,by decide,?_⟩
  refine for_range (fun i σ H'=>Same H8 H'∧∃ f7 f8 f9:Option V,σ = [some (.ref sc),some (.ref cl),some (.ref o),some (.ref p),some (.ref r),some (.ref wl),some (.ref al),f7,f8,f9]) ⟨Same.refl _,_,_,_,rfl⟩ ?_ ?_
  · rintro i σ H9 hi ⟨g9,f7,f8,f9,rfl⟩
    have hi:i < 6:=hi
    obtain ⟨ms,z,m1,m2,m3⟩:=pd_getW i (pd_mapW d8) (by show i < 6; exact hi)
    rw [ask_at i hi] at m1
    cases m1
    obtain ⟨l,vs,rfl,m4,m5⟩:=IsW.lsq m3
    rw [pd_ints m5,List.map_map] at m4
    refine ⟨_,rfl,_,rfl,al,xs8,_,_,rfl,rfl,SqL.of (g9 _ _ h8),?_,l,rfl,⟨_,SqL.of (g9 _ _ m4)⟩,?_⟩
    · show atI xs8 ((0:Int) + (i:Int)) = _
      rw [Int.zero_add]
      exact atI_nat m2
    refine lc_fmA (K:=K) (js:=[5]) (tt:=fun σ H Q=>tOp (rIxL K) (tVar 1) (tVar 0) σ H fun x H1=>∃ k,TruV K x H1 k∧Q k H1) (fun k:Nat=>V.int (k:Int)) (fun k:Nat=>V.int ((f4 k:Nat):Int)) (fun k=>(wrL w0 ks w3).getD k false) (SqL.of (g9 _ _ m4)) (due_len i hi w0 ks w3) ?_ ?_ ?_
    · intro k H' Q' hk _ g hQ
      have hk4:=ask_in i hi k hk
      refine ⟨by show 4≤sizeLine; decide,fun t ht=>⟨_,rfl,t,_,_,_,rfl,rfl,SqL.of upd_same,atI_nat (f4_at hk4),hQ _ (g.trans (Same.new ht _))⟩⟩
    · intro k H' Q' hk g hQ
      have hk4:=ask_in i hi k hk
      exact ⟨_,rfl,_,rfl,wl,_,_,_,rfl,rfl,SqL.of ((g9.trans g) _ _ hw8),atI_nat (wr_at w0 ks w3 hk4),_,rfl,hQ _ g⟩
    intro H10 dl g10 hdl
    have g8a:=g9.trans g10
    have eY:((askM.getD i []).filter fun k=>(wrL w0 ks w3).getD k false).map (fun k:Nat=>V.int ((f4 k:Nat):Int)) = (dueL i w0 ks w3).map fun (n:Nat)=>V.int (n:Int):=by
      unfold dueL
      rw [List.map_map]
      rfl
    rw [eY]
    have hdu:=due_du i hi w0 ks hkl w3
    generalize dueL i w0 ks w3 = ds at hdu ⊢
    have g11:=Same.new hdl (.lst (ds.map fun (n:Nat)=>V.int (n:Int)))
    have e11:upd H10 dl (.lst (ds.map fun (n:Nat)=>V.int (n:Int))) dl = some _:=upd_same
    show tSeq _ _ _ _ (upd H10 dl (.lst (ds.map fun (n:Nat)=>V.int (n:Int))))
    generalize upd H10 dl (.lst (ds.map fun (n:Nat)=>V.int (n:Int))) = H11 at g11 e11 ⊢
    have g8b:=g8a.trans g11
    refine ⟨_,rfl,_,rfl,o,_,rfl,.inl (SqL.of (g8b _ _ ho8)),fun o2 ho2=>?_⟩
    have g12:=Same.new ho2 (.lst (os.map V.str))
    have e12:upd H11 o2 (.lst (os.map V.str)) o2 = some _:=upd_same
    generalize upd H11 o2 _ = H12 at g12 e12 ⊢
    have g8c:=g8b.trans g12
    refine ⟨_,rfl,_,rfl,r,_,rfl,.inl (SqL.of (g8c _ _ hr8)),fun r2 hr2=>?_⟩
    have g13:=Same.new hr2 (.lst (rn.map V.int))
    have e13:upd H12 r2 (.lst (rn.map V.int)) r2 = some _:=upd_same
    generalize upd H12 r2 _ = H13 at g13 e13 ⊢
    have g8d:=g8c.trans g13
    have e11:=g13 _ _ (g12 _ _ e11)
    refine ⟨i,o2,p,r2,w0,ks,w3,?_,hi,⟨⟨os,SqL.of (g13 _ _ e12),hos⟩,hp8.mono g8d,⟨rn,SqL.of e13,hl4,hb4⟩⟩,fun hn H14 g14=>?_,fun n l H14 hn g14 hl=>?_⟩
    · show [V.int ((0:Int) + (i:Int)),_,_,_] = _
      rw [Int.zero_add]
    · rw [hn] at hdu
      have hds:ds = []:=List.head?_eq_none_iff.mp hdu
      subst hds
      refine ⟨_,rfl,by show 0≤sizeLine; decide,fun t ht=>⟨_,by simp [flatV],eq_nil (SqL.of ((g14.trans (Same.new ht _)) _ _ e11)) (SqL.of upd_same),_,rfl,?_⟩⟩
      have g15:=g14.trans (Same.new ht (.lst []))
      generalize upd H14 t _ = H15 at g15 ⊢
      refine ite2 (fun _=>?_) (fun z=>absurd rfl z)
      refine ⟨_,rfl,rfl,_,rfl,ite2 (fun z=>nomatch z) (fun _=>?_)⟩
      refine ⟨_,rfl,by show 0≤sizeLine; decide,fun t2 ht2=>⟨_,by simp [flatV],eq_nil (SqL.of ((g15.trans (Same.new ht2 _)) _ _ e11)) (SqL.of upd_same),_,rfl,?_⟩⟩
      refine ite2 (fun z=>nomatch z) (fun _=>?_)
      exact ite2 (fun z=>nomatch z) (fun _=>⟨(g8d.trans g15).trans (Same.new ht2 _),_,_,_,rfl⟩)
    · rw [hn] at hdu
      obtain ⟨rest,hds⟩:∃ rest,ds = n :: rest:=by
        cases ds with
        | nil=>cases hdu
        | cons x r=>cases hdu; exact ⟨r,rfl⟩
      subst hds
      refine ⟨_,rfl,by show 0≤sizeLine; decide,fun t ht=>⟨_,by simp [flatV],eq_nil (SqL.of ((g14.trans (Same.new ht _)) _ _ e11)) (SqL.of upd_same),_,rfl,?_⟩⟩
      have g15:=g14.trans (Same.new ht (.lst []))
      have hl:=Same.new ht (.lst []) _ _ hl
      generalize upd H14 t _ = H15 at g15 hl ⊢
      refine ite2 (fun z=>nomatch z) (fun _=>?_)
      refine ite2 (fun z=>nomatch z) (fun _=>?_)
      refine ⟨_,rfl,by show 0≤sizeLine; decide,fun t2 ht2=>⟨_,by simp [flatV],eq_nil (SqL.of ((g15.trans (Same.new ht2 _)) _ _ e11)) (SqL.of upd_same),_,rfl,?_⟩⟩
      have g16:=g15.trans (Same.new ht2 (.lst []))
      have hl:=Same.new ht2 (.lst []) _ _ hl
      generalize upd H15 t2 _ = H16 at g16 hl ⊢
      refine ite2 (fun _=>?_) (fun z=>absurd rfl z)
      refine ⟨_,rfl,rfl,_,rfl,ite2 (fun z=>nomatch z) (fun _=>?_)⟩
      refine ⟨_,rfl,_,rfl,dl,_,_,_,rfl,rfl,SqL.of (g16 _ _ e11),atI_nat (j:=0) rfl,l,_,_,rfl,SqL.of hl,fun H17 g17=>⟨_,rfl,?_⟩⟩
      rw [decide_eq_true rfl]
      exact ite2 (fun z=>nomatch z) (fun _=>⟨(g8d.trans g16).trans g17,_,_,_,rfl⟩)
  · rintro σ H9 ⟨g9,f7,f8,f9,rfl⟩
    refine ⟨_,rfl,?_⟩
    refine val_and (b1:=!decide (ks = 1)) (b2:=!decide (ks = 2)) (fun Q hQ=>⟨_,rfl,wl,_,_,_,rfl,rfl,SqL.of (g9 _ _ hw8),atI_nat (j:=1) rfl,_,rfl,hQ⟩) (fun Q hQ=>⟨_,rfl,wl,_,_,_,rfl,rfl,SqL.of (g9 _ _ hw8),atI_nat (j:=2) rfl,_,rfl,hQ⟩) ?_
    exact ⟨p,ks,by rw [good_ks hkl]; rfl,hp8.mono g9,q⟩
end
end K05
namespace K05
open PySem L2 Sen
section
variable {P:Program} {w:World} {K:PySem.W.Frag} {mg:Str→Option Value} {base:Heap} {a:Ad} {k:Nat}
theorem law_all (T:Txt P w K mg a) (base:Heap):FnOk P w K mg base CX0 60 a.a_law a.d_law p_law (spLaw K):=by
  have allRows:FnOk P w K mg base CX0 2 a.a_all_rows a.d_all_rows p_all_rows spAllRows:=ok_all_rows (k:=1) T
  have rowsWith:FnOk P w K mg base CX0 1 a.a_rows_with a.d_rows_with p_rows_with spRowsWith:=ok_rows_with (k:=0) T
  have flipped:=ok_flipped (k:=1) T rowsWith
  have isMarkX:FnOk P w K mg base CX0 1 a.a_is_mark a.d_is_mark p_is_mark spMarkX:=ok_is_markX (k:=0) T
  have isMark:FnOk P w K mg base CX0 1 a.a_is_mark a.d_is_mark p_is_mark spIsMark:=isMarkX.imp (fun vs H Q E h=>by
    obtain ⟨x,rfl,q⟩:=h
    exact ⟨.s x,_,rfl,rfl,q⟩)
  have isOrder:=ok_is_order (k:=1) T isMark
  have lettersOf:FnOk P w K mg base CX0 1 a.a_letters_of a.d_letters_of p_letters_of spLettersOf:=ok_letters_of (k:=0) T
  have partsOf:FnOk P w K mg base CX0 1 a.a_parts_of a.d_parts_of p_parts_of spPartsOf:=ok_parts_of (k:=0) T
  have partsOfAll:=ok_parts_of_all (k:=1) T partsOf
  have partsOfAllX:=ok_parts_of_allX (k:=1) T partsOf
  have shaped:=ok_is_shaped (k:=1) T isMark lettersOf partsOf
  have shapedX:=ok_is_shapedX (k:=1) T isMarkX lettersOf partsOf
  have isSen:=ok_is_sentence (k:=2) T shaped partsOfAll
  have isSenX:=ok_is_sentenceX (k:=2) T shapedX partsOfAllX
  have mustOrder:=ok_must_be_order (k:=2) T isOrder
  have mustOrderR:=okR_must_be_order (k:=2) T isOrder
  have mustOrderE:FnOk P w K mg base (CXE P w) 3 a.a_must_be_order a.d_must_be_order p_must_be_order (spOrderE a.a_NoOrder K):=(mustOrder.lift (CX:=CXE P w)).orE mustOrderR
  have mustSen:=ok_must_be_sentence (k:=3) T isSen
  have mustSenR:=okR_must_be_sentence (k:=3) T isSenX
  have mustSenE:FnOk P w K mg base (CXE P w) 4 a.a_must_be_sentence a.d_must_be_sentence p_must_be_sentence (spSenE a.a_NoSentence):=(mustSen.lift (CX:=CXE P w)).orE mustSenR
  have tuplesIn:=ok_tuples_in (k:=2) T partsOfAll
  have lettersIn:=ok_letters_in (k:=3) T tuplesIn (lettersOf.mono (by decide))
  have mustMark:FnOk P w K mg base CX0 1 a.a_must_have_mark a.d_must_have_mark p_must_have_mark (spMustMark K):=ok_must_have_mark (k:=0) T
  have markR:FnOk P w K mg base (CXE P w) 1 a.a_must_have_mark a.d_must_have_mark p_must_have_mark (spMarkR a.a_NoMark K):=okR_must_have_mark (k:=0) T
  have markE:FnOk P w K mg base (CXE P w) 1 a.a_must_have_mark a.d_must_have_mark p_must_have_mark (spMarkE a.a_NoMark K):=(mustMark.lift (CX:=CXE P w)).orE markR
  have mustMarks:=ok_must_have_marks (k:=4) T lettersIn (mustMark.mono (by decide))
  have mustMarksR:=okR_must_have_marks (k:=4) T lettersIn (markE.mono (by decide))
  have mustMarksE:FnOk P w K mg base (CXE P w) 5 a.a_must_have_marks a.d_must_have_marks p_must_have_marks (spMarksE a.a_NoMark K):=(mustMarks.lift (CX:=CXE P w)).orE mustMarksR
  have isRow:FnOk P w K mg base CX0 1 a.a_is_row a.d_is_row p_is_row (spIsRow K):=ok_is_row (k:=0) T
  have mustRow:=ok_must_be_row (k:=1) T isRow
  have rowR:=okR_must_be_row (k:=1) T isRow
  have two:FnOk P w K mg base CX0 2 a.a_table_of_two a.d_table_of_two p_table_of_two spTwo:=ok_table_of_two (k:=1) T
  have table:=ok_table_of (k:=2) T allRows (rowsWith.mono (by decide)) flipped (partsOf.mono (by decide)) two 24
  have heldAt:=ok_held_at (k:=2) T (rowsWith.mono (by decide)) flipped
  have hangs:=ok_hangs_on (k:=2) T flipped
  have first:=ok_first_place (k:=3) T hangs
  have roomWith:=ok_Book_room_with (k:=4) T first (heldAt.mono (by decide)) 9
  have enter:=ok_Book_enter (k:=26) T (mustSen.mono (by decide)) (mustMarks.mono (by decide)) table (roomWith.mono (by decide))
  have enterR:=okR_Book_enter (k:=26) T (mustSenE.mono (by decide)) (mustMarksR.mono (by decide))
  have enterE:FnOk P w K mg base (CXE P w) 27 a.a_Book_enter a.d_Book_enter p_Book_enter (spEnter5 a.a_Book a.a_NoSentence a.a_NoMark):=(enter.lift (CX:=CXE P w)).orE enterR
  have init:=ok_Book_init (k:=3) T mustOrder (allRows.mono (by decide))
  have initR:=okR_Book_init (k:=3) T mustOrderR
  have initE:FnOk P w K mg base (CXE P w) 4 a.a_Book_init a.d_Book_init p_Book_init (spInit5 a.a_Book a.a_NoOrder K):=(init.lift (CX:=CXE P w)).orE initR
  have valueAt:FnOk P w K mg base CX0 1 a.a_value_at a.d_value_at p_value_at (spValueAt K):=ok_value_at (k:=0) T
  have worth:=ok_worth (k:=26) T (mustOrder.mono (by decide)) (mustSen.mono (by decide)) (mustMarks.mono (by decide)) (mustRow.mono (by decide)) table (valueAt.mono (by decide))
  have worthR:=okR_worth (k:=26) T (mustOrderE.mono (by decide)) (mustSenE.mono (by decide)) (mustMarksE.mono (by decide)) (rowR.mono (by decide))
  have worthE:FnOk P w K mg base (CXE P w) 27 a.a_worth a.d_worth p_worth (spWorth5 a.a_NoOrder a.a_NoSentence a.a_NoMark a.a_NoRow K):=(worth.lift (CX:=CXE P w)).orE worthR
  have words:=ok_words (k:=4) T mustSen (tuplesIn.mono (by decide))
  have wordsR:=okR_words (k:=4) T mustSenR
  have wordsE:FnOk P w K mg base (CXE P w) 5 a.a_words a.d_words p_words (spWords5 a.a_NoSentence):=(words.lift (CX:=CXE P w)).orE wordsR
  have marksOf:=ok_marks_of (k:=4) T mustSen lettersIn
  have marksOfR:=okR_marks_of (k:=4) T mustSenR
  have marksOfE:FnOk P w K mg base (CXE P w) 5 a.a_marks_of a.d_marks_of p_marks_of (spMarks5 a.a_NoSentence):=(marksOf.lift (CX:=CXE P w)).orE marksOfR
  have written:=ok_written (k:=1) T lettersOf partsOf 24
  have shown:=ok_shown (k:=25) T (mustSen.mono (by decide)) written
  have shownR:=okR_shown (k:=25) T (mustSenR.mono (by decide))
  have shownE:FnOk P w K mg base (CXE P w) 26 a.a_shown a.d_shown p_shown (spShown5 a.a_NoSentence):=(shown.lift (CX:=CXE P w)).orE shownR
  have done:=ok_law_done (k:=40) T (worthE.mono (by decide)) (initE.mono (by decide)) (enterE.mono (by decide)) (wordsE.mono (by decide)) (marksOfE.mono (by decide)) (shownE.mono (by decide))
  have which:∀ ex,FnOkH P w K mg base ex 43 a.a_x_law_which a.d_x_law_which p_x_law_which (spWhichA K a.a_BookError [a.a_NoOrder,a.a_NoSentence,a.a_NoMark,a.a_NoRoom,a.a_NoWord,a.a_NoRow,a.a_NoNumber,a.a_NoNote] ex):=fun ex=>ok_law_which (k:=42) T ex
  have met:=ok_law_met (k:=43) T (done.mono (by decide)) which
  have sizeH:∀ ex,FnOkH P w K mg base ex 41 a.a_Book_size a.d_Book_size p_Book_size (spBookSize (BookAt a.a_Book)):=fun ex=>okH_Book_size (k:=40) T ex
  have entered:=ok_law_entered (k:=40) T (init.mono (by decide)) (enterE.mono (by decide)) sizeH
  have orderBy:FnOk P w K mg base CX0 1 a.a_x_law_order_by a.d_x_law_order_by p_x_law_order_by spOrderBy:=ok_law_order_by (k:=0) T
  have senBy:FnOk P w K mg base CX0 1 a.a_x_law_sentence_by a.d_x_law_sentence_by p_x_law_sentence_by spSenBy:=ok_law_sentence_by (k:=0) T
  have rowBy:FnOk P w K mg base CX0 1 a.a_x_law_row_by a.d_x_law_row_by p_x_law_row_by spRowBy:=ok_law_row_by (k:=0) T
  have isA:FnOk P w K mg base CX0 1 a.a_x_law_is a.d_x_law_is p_x_law_is (spIsA K):=ok_law_is (k:=0) T
  have cellF:FnOk P w K mg base CX0 1 a.a_x_law_cell_at a.d_x_law_cell_at p_x_law_cell_at (spCellF K):=ok_cell_f (k:=0) T
  exact ok_law (k:=58) T (cellF.mono (by decide)) (orderBy.mono (by decide)) (senBy.mono (by decide)) (rowBy.mono (by decide)) (met.mono (by decide)) (entered.mono (by decide)) (isA.mono (by decide))
end
end K05
namespace PySem.W.Fast
def tw5425569659398780402:Nat:=0
def tw9761721634775617255:Nat:=0
def tw15794907344688208695:Nat:=0
def tw5124147864104715987:Nat:=0
def tw14082744216523690867:Nat:=0
def tw4124832788216189702:Nat:=0
def tw762026707190237488:Nat:=0
def tw11667486468045599666:Nat:=0
def tw16051278498408849954:Nat:=0
def tw7895337373758095823:Nat:=0
def tw2211314546230583045:Nat:=0
def tw13514111957999592894:Nat:=0
def tw246278470182783163:Nat:=0
def tw9408096296375435886:Nat:=0
def tw13613444312766340730:Nat:=0
def tw7992337644564178425:Nat:=0
def tw16335388272725402387:Nat:=0
def tw73559150601729564:Nat:=0
def tw9002162489973091870:Nat:=0
def tw13944493147615477060:Nat:=0
def tw10041797177937951519:Nat:=0
def tw394334128857983325:Nat:=0
def tw17006790577589705175:Nat:=0
def tw2260083739089889873:Nat:=0
def tw13597029034214891384:Nat:=0
def tw8819990584322259950:Nat:=0
def tw6994423139122671493:Nat:=0
def tw10492001960687366518:Nat:=0
def tw17312033508651970068:Nat:=0
def tw9082079976319900350:Nat:=0
def tw7486722660919232959:Nat:=0
def tw7995913443269898486:Nat:=0
def tw2100314149113611108:Nat:=0
def tw8146097420395908018:Nat:=0
def tw6086996615622121553:Nat:=0
def tw13940222689503145724:Nat:=0
def tw2965069465670996625:Nat:=0
def tw2713367279815206494:Nat:=0
def tw3977227242169148197:Nat:=0
def tw10938623098274292042:Nat:=0
def tw5442584082339995909:Nat:=0
def tw9166712634255554932:Nat:=0
def tw1762970699177961017:Nat:=0
def tw17945938161552488996:Nat:=0
def tw6750255723079053879:Nat:=0
def tw14446919502448460023:Nat:=0
def tw3776648214532373852:Nat:=0
def tw11640353094724181842:Nat:=0
def tw705466918195600884:Nat:=0
def tw8378740907581943357:Nat:=0
def tw2761757030514199150:Nat:=0
def tw17373540263367775096:Nat:=0
def tw492966407083269012:Nat:=0
def tw3147871766652171387:Nat:=0
def tw12938521889886874156:Nat:=0
def tw11122496833825719959:Nat:=0
def tw10291713020379087667:Nat:=0
def tw1772244215471075400:Nat:=0
def tw13053954628422193890:Nat:=0
def tw3491732459291457403:Nat:=0
def tw16560523042450350022:Nat:=0
def tw16669354172675621332:Nat:=0
def tw8541743336776564549:Nat:=0
def tw2773123038249267974:Nat:=0
def tw14791014730382727055:Nat:=0
def tw9749619293054030648:Nat:=0
def tw16246709023631740136:Nat:=0
def tw1845888489969157734:Nat:=0
def tw7967303469206876181:Nat:=0
def tw12776684830889417939:Nat:=0
def tw17442518968983931595:Nat:=0
def tw11734678995380365539:Nat:=0
def tw7427698276641233204:Nat:=0
def tw15139923369099235067:Nat:=0
def tw18437716449072989709:Nat:=0
def tw16728479608394323559:Nat:=0
def tw1718186909935773707:Nat:=0
def tw1614017101549999675:Nat:=0
def tw12520723783102550657:Nat:=0
def tw11283241270116998697:Nat:=0
def tw2792499531332574852:Nat:=0
def tw15099313831470993571:Nat:=0
def tw14041058690049821986:Nat:=0
def tw13798432690938578760:Nat:=0
def tw1537564551961186406:Nat:=0
def tw14910977363233086622:Nat:=0
def tw2584794114372715680:Nat:=0
def tw2289311743985212139:Nat:=0
def tw2094462310651156438:Nat:=0
def tw7518461318374284759:Nat:=0
def tw7047141879625576487:Nat:=0
def tw737601243594671796:Nat:=0
def tw17115666889313767030:Nat:=0
def tw10192950324588740898:Nat:=0
def tw16683093922598495094:Nat:=0
def tw14509328650363457283:Nat:=0
def tw7924570551850997025:Nat:=0
def tw1442143708761564445:Nat:=0
def tw13726596795525262529:Nat:=0
def tw15160949270496257804:Nat:=0
def tw18363169042361794962:Nat:=0
def tw16565088676345243907:Nat:=0
def tw10272938428871553528:Nat:=0
def tw12003500557095798036:Nat:=0
def tw5695527522000743667:Nat:=0
def tw1701570984358817269:Nat:=0
def tw11810819970571191675:Nat:=0
def tw10407381971388917127:Nat:=0
def tw10409822785434010541:Nat:=0
def tw9110416280382424076:Nat:=0
def tw748115951557152889:Nat:=0
def tw2360640854864953541:Nat:=0
def tw7610152183318849941:Nat:=0
def tw4568948085590631641:Nat:=0
def tw13841002868521986470:Nat:=0
def tw6353886562629283654:Nat:=0
def tw5912016188272082042:Nat:=0
def tw13548194630882428776:Nat:=0
def tw14935286672242614667:Nat:=0
def tw13139045840734678889:Nat:=0
def tw15234177669759569275:Nat:=0
def tw17257012668219146261:Nat:=0
def tw937425013867522223:Nat:=0
def tw12862688838073832443:Nat:=0
def tw1585616132147161542:Nat:=0
def tw6561993478870648825:Nat:=0
def tw9274038489978950269:Nat:=0
def tw12543690112440430023:Nat:=0
def tw11957590981794509272:Nat:=0
def tw14695142634712955410:Nat:=0
def tw16282287724179898645:Nat:=0
def tw802722367203332172:Nat:=0
def tw7503608131662091228:Nat:=0
def tw10972635571474940961:Nat:=0
def tw4562837510100861646:Nat:=0
def tw844781179261714857:Nat:=0
def tw10833978310926086571:Nat:=0
def tw16137387461355814654:Nat:=0
def tw17971023593607591291:Nat:=0
def tw7294748086335173052:Nat:=0
def tw11630831520248315762:Nat:=0
def tw7028835086608959844:Nat:=0
def tw2104256284274170102:Nat:=0
def tw17118863327245771257:Nat:=0
def tw6566594601994930151:Nat:=0
def tw8245477824410417351:Nat:=0
def tw1379083459493004380:Nat:=0
def tw5296797933415979706:Nat:=0
def tw6400052017882656416:Nat:=0
def tw7264346122176031387:Nat:=0
def tw1147971524041960958:Nat:=0
def tw4859507814260687828:Nat:=0
def tw7293965704610629904:Nat:=0
def tw306882536252051595:Nat:=0
def tw17992519582177309921:Nat:=0
def tw7526348402278974338:Nat:=0
def tw11926603222565248577:Nat:=0
def tw4025222870384656772:Nat:=0
def tw14098155658217462490:Nat:=0
def tw14742420671167879183:Nat:=0
def tw15692010375328364014:Nat:=0
def tw575252764160145804:Nat:=0
def tw2234035612859363704:Nat:=0
def tw17663209731843152310:Nat:=0
def tw6553187540041186719:Nat:=0
def tw2791992205981910935:Nat:=0
def tw15452774720827074721:Nat:=0
def tw9739974337160205169:Nat:=0
def tw1694664601138186385:Nat:=0
def tw8367888739495342812:Nat:=0
def tw3315662465402890336:Nat:=0
def tw15971733847889528872:Nat:=0
def tw1363507750207798278:Nat:=0
def tw11296488296597201009:Nat:=0
def tw12997075692344197416:Nat:=0
def tw1813107996676313892:Nat:=0
def tw12431411799065984733:Nat:=0
def tw355936790567474605:Nat:=0
def tw10907821177656144832:Nat:=0
def tw15449865169602905336:Nat:=0
def tw10734460027749181624:Nat:=0
def tw1607423037259689116:Nat:=0
def tw3807714834444134923:Nat:=0
end PySem.W.Fast
open PySem PySem.W PyProof.Rows
set_option maxRecDepth 100000 in
set_option maxHeartbeats 0 in
theorem PySem.Challenge.cw_decidebook_k05_sentences_orders_and_rows_holds : PySem.Challenge.rw_decidebook_k05_sentences_orders_and_rows.Holds := by
  w_on; o_law; k_head; (case hw => w_witness2)
  k_fill
  refine L2.walk_ofK (l := PySem.Challenge.rw_decidebook_k05_sentences_orders_and_rows) (n := 63) (k := 60) (x := "script") (CX := L2.CX0) (sp := Sen.spLaw) rfl (by decide) rfl (by first | exact ⟨rfl, by decide, by decide⟩ | exact ⟨rfl, rfl, by decide, by decide⟩) (fun w h Y => PySem.W.kIn_of Y) ?F ?S ?C
  case F =>
    intro w mg fa h KX G hmg
    have T : ∃ a, K05.Txt PySem.Challenge.rw_decidebook_k05_sentences_orders_and_rows.prog w (L2.KOf KX) mg a := by
      dsimp only [L2.KOf]
      apply K05.ex_mk
      constructor
      iterate 10 ((try dsimp only);apply PySem.W.mg_of KX G;k_is)
      iterate 39 ((try dsimp only);apply L2.dfm KX G;k_is;k_is;k_is;k_is;intro _ _ _ _ _ _ us hl;first|(have z:=L2.ln_0 hl;subst z;rfl)|(obtain⟨_,us,e,hm⟩:=L2.ln_s hl;clear hl;subst e;have hl:=hm;clear hm;first|(have z:=L2.ln_0 hl;subst z;rfl)|(obtain⟨_,us,e,hm⟩:=L2.ln_s hl;clear hl;subst e;have hl:=hm;clear hm;first|(have z:=L2.ln_0 hl;subst z;rfl)|(obtain⟨_,us,e,hm⟩:=L2.ln_s hl;clear hl;subst e;have hl:=hm;clear hm;first|(have z:=L2.ln_0 hl;subst z;rfl)|(obtain⟨_,us,e,hm⟩:=L2.ln_s hl;clear hl;subst e;have hl:=hm;clear hm;first|(have z:=L2.ln_0 hl;subst z;rfl)|(obtain⟨_,us,e,hm⟩:=L2.ln_s hl;clear hl;subst e;have hl:=hm;clear hm;first|(have z:=L2.ln_0 hl;subst z;rfl)|(obtain⟨_,us,e,hm⟩:=L2.ln_s hl;clear hl;subst e;have hl:=hm;clear hm;first|(have z:=L2.ln_0 hl;subst z;rfl)|(obtain⟨_,us,e,hm⟩:=L2.ln_s hl;clear hl;subst e;have hl:=hm;clear hm;(have z:=L2.ln_0 hl;subst z;rfl)))))))))
      iterate 5 ((try dsimp only);apply L2.dmm;k_is;k_is;k_is;k_is;k_is;intro _ _ _ _ _ _ us hl;first|(have z:=L2.ln_0 hl;subst z;rfl)|(obtain⟨_,us,e,hm⟩:=L2.ln_s hl;clear hl;subst e;have hl:=hm;clear hm;first|(have z:=L2.ln_0 hl;subst z;rfl)|(obtain⟨_,us,e,hm⟩:=L2.ln_s hl;clear hl;subst e;have hl:=hm;clear hm;first|(have z:=L2.ln_0 hl;subst z;rfl)|(obtain⟨_,us,e,hm⟩:=L2.ln_s hl;clear hl;subst e;have hl:=hm;clear hm;first|(have z:=L2.ln_0 hl;subst z;rfl)|(obtain⟨_,us,e,hm⟩:=L2.ln_s hl;clear hl;subst e;have hl:=hm;clear hm;first|(have z:=L2.ln_0 hl;subst z;rfl)|(obtain⟨_,us,e,hm⟩:=L2.ln_s hl;clear hl;subst e;have hl:=hm;clear hm;first|(have z:=L2.ln_0 hl;subst z;rfl)|(obtain⟨_,us,e,hm⟩:=L2.ln_s hl;clear hl;subst e;have hl:=hm;clear hm;first|(have z:=L2.ln_0 hl;subst z;rfl)|(obtain⟨_,us,e,hm⟩:=L2.ln_s hl;clear hl;subst e;have hl:=hm;clear hm;(have z:=L2.ln_0 hl;subst z;rfl)))))))))
      iterate 2 ((try dsimp only);constructor;k_is;k_is;k_is;k_is)
      iterate 4 ((try dsimp only);unfold L2.NoAttr;k_is)
      iterate 8 ((try dsimp only);apply L2.askC_mk;k_is;k_is)
      iterate 4 ((try dsimp only);apply L2.excC_mk;k_exc;k_is;k_is;k_is;rfl)
      (try dsimp only);apply L2.excB_mk;k_is;k_is;k_is
      (try dsimp only);refine of_decide_eq_true ?_;rfl
      (try dsimp only);apply PySem.W.mg_none_of KX G;k_is
      (try dsimp only);apply PySem.W.mg_of KX G;k_is
      (try dsimp only);apply L2.sqT_all;k_is;rfl;decide
      iterate 3 ((try dsimp only);apply PySem.W.mg_of KX G;k_is)
      (try dsimp only);apply L2.shp_mk;k_is;rfl;(unfold K05.tb_SHAPES;decide +kernel);(unfold K05.tb_SHAPES;iterate 10 (apply L2.Ent.cons;k_is;rfl));apply L2.Ent.nil
      iterate 10 ((try dsimp only);apply PySem.W.mg_none_of KX G;k_is)
    obtain ⟨a, T⟩ := T
    have e0 := hmg.symm.trans T.f_law.m
    cases e0
    exact ⟨_, K05.x_law T.f_law, fun base kb nb => K05.law_all T base⟩
  case S => exact fun K H a ns hl hO hS => ⟨a, ns, rfl, hS, hl, fun _ => rfl⟩
  case C => exact fun _ _ _ _ h => h
